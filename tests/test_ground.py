import copy
import unittest

from completion_checks import check_derivation
from helpers import A, B, bush, comb, eq, plain_substitute, random_term, rules_of, seeded, signature, sized, t, tower
from joinedends.chains import flat_length, flatten, is_derivation, visited
from joinedends.errors import HallError, NotFound
from joinedends.ground import Closure
from joinedends.models import holds, is_model, value
from joinedends.notation import write_term
from joinedends.terms import compare_terms

C = ("c",)
NAMES = "a b c g h f k"


def ground_term(rng, depth):
    return plain_substitute(random_term(rng, depth, 1), {0: rng.choice([A, B, C])})


def plain_classes(equations, terms):
    """A dict from the members to what is equal for members of one class."""
    members = []
    for term in [side for equation in equations for side in equation] + terms:
        waiting = [term]
        while waiting:
            part = waiting.pop()
            if part not in members:
                members.append(part)
            waiting.extend(part[1:])
    classes = {member: number for number, member in enumerate(members)}

    def unite(one, other):
        kept, lost = classes[one], classes[other]
        for member in members:
            if classes[member] == lost:
                classes[member] = kept
        return kept != lost

    for left, right in equations:
        unite(left, right)
    is_changed = True
    while is_changed:
        is_changed = False
        for one in members:
            for other in members:
                if one[0] == other[0] and [classes[x] for x in one[1:]] == [classes[x] for x in other[1:]]:
                    is_changed = unite(one, other) or is_changed
    return classes


def written(terms):
    return [write_term(term) for term in terms]


class MembersTest(unittest.TestCase):
    def test_members(self):
        closure = Closure(rules_of("f(g(a), b) = g(a)", "b = b"), [t("h(f(a, a))"), t("a"), t("g(a)")])
        self.assertEqual(written(closure.members()),
                         ["a", "b", "g(a)", "f(a, a)", "f(g(a), b)", "h(f(a, a))"])
        self.assertEqual([written(row) for row in closure.classes()],
                         [["a"], ["b"], ["g(a)", "f(g(a), b)"], ["f(a, a)"], ["h(f(a, a))"]])

    def test_classes(self):
        closure = Closure(rules_of("a = b", "g(b) = c"), [t("f(g(a), a)"), t("f(c, b)"), t("h(a)")])
        self.assertEqual([written(row) for row in closure.classes()],
                         [["a", "b"], ["c", "g(a)", "g(b)"], ["h(a)"], ["f(c, b)", "f(g(a), a)"]])

    def test_no_members(self):
        closure = Closure([], [])
        self.assertEqual((closure.members(), closure.classes()), ([], []))
        self.assertEqual(closure.model(signature(NAMES)), (1, {name: {} for name in NAMES.split()}))
        self.assertEqual(closure.model(signature("")), (1, {}))

    def test_the_lists_changed_afterwards(self):
        equations, terms = rules_of("a = g(a)"), [B]
        closure = Closure(equations, terms)
        equations.append(eq("a = b"))
        equations[0] = eq("c = c")
        terms.append(C)
        self.assertEqual(closure.members(), [A, B, t("g(a)")])
        self.assertFalse(closure.same(A, B))
        check_derivation(self, rules_of("a = g(a)"), t("g(a)"), A, closure.derivation(t("g(a)"), A))
        del equations[:]
        self.assertTrue(closure.same(t("g(a)"), A))

    def test_returned_values_are_new(self):
        names = signature(NAMES)
        closure = Closure(rules_of("a = g(b)"), [t("g(a)"), t("g(g(b))")])
        before = copy.deepcopy((closure.members(), closure.classes(), closure.model(names)))
        stages = closure.derivation(t("g(a)"), t("g(g(b))"))
        kept = copy.deepcopy(stages)
        closure.members().clear()
        closure.classes()[0].clear()
        closure.classes().clear()
        closure.model(names)[1]["g"].clear()
        for stage in stages:
            for step in stage[2]:
                step[3][0] = A
            stage[2].clear()
        self.assertEqual((closure.members(), closure.classes(), closure.model(names)), before)
        self.assertEqual(closure.derivation(t("g(a)"), t("g(g(b))")), kept)

    def test_not_found(self):
        closure = Closure(rules_of("f(a, a) = b"), [t("g(b)")])
        for term in [C, t("g(a)"), t("f(a, b)"), t("f(b, a)"), t("h(a)"), 0, t("f(x0, a)"), t("g(g(b))"), t("k(a, a, a)")]:
            for left, right in [(term, A), (A, term), (term, term)]:
                for call in (closure.same, closure.derivation):
                    for error in (NotFound, HallError, ValueError):
                        with self.assertRaises(error):
                            call(left, right)
        self.assertEqual(len(closure.members()), 4)
        self.assertTrue(closure.same(B, t("f(a, a)")))


class DerivationTest(unittest.TestCase):
    def check(self, equations, left, right, closure=None):
        """The stages that derive the equation; they are checked in both directions."""
        closure = closure or Closure(equations, [left, right])
        self.assertIs(closure.same(left, right), True)
        check_derivation(self, equations, right, left, closure.derivation(right, left))
        stages = closure.derivation(left, right)
        check_derivation(self, equations, left, right, stages)
        return stages

    def test_derivations(self):
        self.assertEqual(self.check(rules_of("a = b"), A, B), [(A, B, [(("given", 0), True, (), {})])])
        self.assertEqual(self.check(rules_of("b = c", "b = a"), A, B), [(A, B, [(("given", 1), False, (), {})])])
        stages = self.check(rules_of("a = b"), t("f(g(a), c)"), t("f(g(b), c)"))
        self.assertEqual(flatten(stages, 10), [(("given", 0), True, (1, 1), {})])
        stages = self.check(rules_of("a = b"), t("k(a, b, a)"), t("k(b, a, a)"))
        self.assertCountEqual(flatten(stages, 10), [(("given", 0), True, (1,), {}), (("given", 0), False, (2,), {})])
        self.check(rules_of("g(g(g(a))) = a", "g(g(a)) = a"), t("g(a)"), A)
        self.check(rules_of("f(a, b) = a"), t("f(f(a, b), b)"), A)

    def test_equal_terms(self):
        closure = Closure(rules_of("a = b", "g(a) = a"), [])
        for term in closure.members():
            self.assertTrue(closure.same(term, term))
            self.assertEqual(closure.derivation(term, term), [(term, term, [])])

    def test_different_classes(self):
        closure = Closure(rules_of("a = b"), [t("g(c)"), t("g(a)")])
        for left, right in [(A, C), (C, B), (t("g(a)"), A), (t("g(c)"), t("g(a)"))]:
            self.assertIs(closure.same(left, right), False)
            self.assertIsNone(closure.derivation(left, right))

    def test_each_given_equation_that_is_used(self):
        equations = rules_of("a = b", "b = c", "a = c", "g(a) = h(b)", "h(c) = g(c)")
        stages = self.check(equations, t("f(g(a), h(a))"), t("f(h(c), g(b))"))
        left = t("f(g(a), h(a))")
        self.assertEqual(visited(equations, [], left, flatten(stages, 100))[-1], t("f(h(c), g(b))"))

    def test_against_plain_classes(self):
        count = 0
        for seed in range(120):
            rng = seeded(seed)
            equations = [(ground_term(rng, rng.randrange(1, 4)), ground_term(rng, rng.randrange(1, 4)))
                         for _ in range(rng.randrange(6))]
            terms = [ground_term(rng, 3) for _ in range(rng.randrange(3))]
            before = copy.deepcopy((equations, terms))
            closure = Closure(equations, terms)
            self.compare(equations, closure, plain_classes(equations, terms))
            self.assertEqual((equations, terms), before)
            count += sum(len(row) > 1 for row in closure.classes())
        self.assertGreater(count, 100)

    def compare(self, equations, closure, classes):
        members = closure.members()
        self.assertEqual(sorted(members, key=str), sorted(classes, key=str))
        for one, other in zip(members, members[1:]):
            self.assertEqual(compare_terms(one, other), -1)
        rows = {}
        for member in members:
            rows.setdefault(classes[member], []).append(member)
        self.assertEqual(closure.classes(), list(rows.values()))
        for left in members:
            for right in members:
                is_same = classes[left] == classes[right]
                self.assertIs(closure.same(left, right), is_same)
                stages = closure.derivation(left, right)
                self.assertIs(stages is not None, is_same)
                if is_same:
                    check_derivation(self, equations, left, right, stages)
        self.check_model(equations, closure, classes)

    def check_model(self, equations, closure, classes):
        names = signature(NAMES)
        model = closure.model(names)
        self.assertTrue(is_model(names, model))
        self.assertEqual(list(model[1]), list(names))
        self.assertEqual(model[0], max(1, len(set(classes.values()))))
        for left, right in equations:
            self.assertTrue(holds(model, left, right))
        for number, row in enumerate(closure.classes()):
            for member in row:
                self.assertEqual(value(model, member, {}), number)


class LargeTest(unittest.TestCase):
    def test_long_chains_of_nested_terms(self):
        constants = [("c" + chr(97 + number // 26) + chr(97 + number % 26),) for number in range(41)]
        equations = list(zip(constants, constants[1:]))
        towers = [tower("g", 29, constant) for constant in constants[:40]]
        closure = Closure(equations, towers)
        self.assertEqual((len(closure.members()), len(closure.classes())), (1201, 30))
        stages = closure.derivation(towers[0], towers[-1])
        check = visited(equations, [], towers[0], flatten(stages, 10000))
        self.assertEqual(check[-1], towers[-1])
        self.assertTrue(is_derivation(equations, towers[0], towers[-1], stages))

    def test_many_members(self):
        rng = seeded(7)
        equations = [(sized(400 - number), bush("f", 7, ("g", A))) for number in range(40)]
        terms = [plain_substitute(comb("f", 28, 0), {0: ground_term(rng, 3)}) for _ in range(40)]
        closure = Closure(equations, terms)
        self.assertGreater(len(closure.members()), 1000)
        stages = closure.derivation(sized(400), sized(361))
        self.assertTrue(is_derivation(equations, sized(400), sized(361), stages))
        self.assertEqual(is_model(signature(NAMES), closure.model(signature(NAMES))), True)

    def test_many_stages(self):
        # Each level is equal only because of both equations between the levels below.
        equations = [(tower("g", 29, A), A), (tower("g", 19, A), A)]
        closure = Closure(equations, [])
        self.assertEqual(len(closure.classes()), 1)
        for left in closure.members():
            stages = closure.derivation(left, A)
            check_derivation(self, equations, left, A, stages)
            self.assertGreaterEqual(flat_length(stages), 1 if left != A else 0)

    def test_a_flat_form_that_is_long(self):
        # The terms on each side double, and so do the flat steps.
        equations = rules_of("a = b")
        left, right = bush("f", 7, A), bush("f", 7, B)
        stages = Closure(equations, [left, right]).derivation(left, right)
        self.assertEqual(flat_length(stages), 128)
        self.assertLess(len(stages), 10)
        check_derivation(self, equations, left, right, stages)


if __name__ == "__main__":
    unittest.main()
