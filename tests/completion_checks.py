"""What the tests of completion share: orders, states, and checks of derivations."""

from helpers import A, random_term, rules_of, shuffled, signature
from joinedends.chains import is_derivation
from joinedends.completion import Completion
from joinedends.notation import write_equation
from joinedends.pathorder import PathOrder
from joinedends.polynomialorder import PolynomialOrder
from joinedends.signature import Signature
from joinedends.weightorder import WeightOrder

SMALL = "a g f"
GROUP = ["f(e, x0) = x0", "f(i(x0), x0) = e", "f(f(x0, x1), x2) = f(x0, f(x1, x2))"]


def group_signature():
    result = Signature()
    for name, arity in [("e", 0), ("f", 2), ("i", 1)]:
        result.declare(name, arity)
    return result


def complete_group():
    """The signature, the given equations and the completion of the equations of groups."""
    given = rules_of(*GROUP)
    completion = Completion(PathOrder(group_signature()), given)
    completion.run(200)
    return group_signature(), given, completion


def path_completion(names, *texts):
    return Completion(PathOrder(signature(names)), rules_of(*texts))


def written(equations):
    return [write_equation(*equation) for equation in equations]


def state(completion):
    return (completion.status(), completion.rules(), completion.waiting(), completion.aside(), completion.lost())


def random_orders(rng):
    """One order of each kind for all names of ARITIES."""
    names = signature(shuffled(rng))
    weights = {name: rng.randrange(1, 4) for name in names}
    table = {name: [rng.randrange(3)] + [rng.randrange(1, 3) for _ in range(names.arity(name))] for name in names}
    return [PathOrder(names), WeightOrder(names, weights, 1), PolynomialOrder(names, table)]


def random_equations(rng, count):
    return [(random_term(rng, rng.choice([2, 3, 4]), rng.choice([1, 2, 3])), random_term(rng, rng.choice([1, 2, 3]), 3))
            for _ in range(count)]


def check_derivation(test, given, left, right, stages):
    """The stages derive the equation, and each but the last is named in a later one."""
    test.assertTrue(is_derivation(given, left, right, stages))
    for number in range(len(stages) - 1):
        later = [step[0] for stage in stages[number + 1:] for step in stage[2]]
        test.assertIn(("stage", number), later)


def small(term):
    """The term with operations of SMALL only."""
    if isinstance(term, int):
        return term
    parts = tuple(small(part) for part in term[1:])
    if term[0] in ("a", "b"):
        return A
    return ("g", parts[0]) if len(parts) == 1 else ("f", *parts[:2])


def small_equations(rng, count):
    return [(small(random_term(rng, rng.choice([2, 3]), 3)), small(random_term(rng, rng.choice([1, 2, 3]), 3)))
            for _ in range(count)]
