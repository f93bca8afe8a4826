"""What the tests of all orders share: odd values, spoilt reasons, and the properties of an order."""

from helpers import A, B, all_positions, plain_substitute, random_term, t
from joinedends.errors import UnknownName
from joinedends.terms import replace


def nested(depth_limit):
    """A value in which tuples are nested this deep, and in which each level has two equal parts."""
    value = ()
    for _ in range(depth_limit - 1):
        value = (value, value)
    return value


ODD = [None, 0, 1, -1, 7, "", "a", "variable", "weight", "name", "power", "polynomial", (), (None,), (0,), ("",), ((),),
       ("x",), ("variable",), ("variable", None), ("argument",), ("argument", 1), ("argument", 0, None),
       ("argument", -1, None), ("argument", 9, None), ("argument", "1", None), ("argument", None, None),
       ("argument", (), None), ("argument", 1, None, None), ("argument", 1, 1), ("argument", 1, "variable"),
       ("argument", 1, ()), ("name",), ("name", None), ("name", 1), ("name", "ab"), ("name", ((),)), ("name", (None,)),
       ("name", (), ()), ("lexical",), ("lexical", 1, None), ("lexical", 1, None, ()), ("lexical", None, None, ()),
       ("lexical", 0, ("variable",), ()), ("lexical", -1, ("variable",), ()), ("lexical", 3, ("variable",), ()),
       ("lexical", 1, ("variable",), None), ("lexical", 1, ("variable",), 1), ("lexical", 1, (), ()),
       ("weight", None), ("weight",) * 2, ("power", 1), ("name", "name"), ("lexical", 1, ("weight",), ()),
       ("lexical", 0, ("weight",)), ("lexical", "1", ("weight",)), ("polynomial",), ("polynomial", (), ()),
       ("polynomial", (1,) * 21, (0,) * 21, ()), tuple(range(50)), nested(100), ("argument", 1, nested(98)),
       ("name", nested(98)), ("lexical", 1, nested(97), nested(97)), ("polynomial", nested(98), nested(98))]


def spoilt(value):
    """Values that differ from the given one in one part, or in a part that is missing or too many."""
    if not isinstance(value, tuple):
        rows = [None, 0, 1, 2, -1, "name", "lexical", ("variable",)]
        if isinstance(value, int):
            rows.extend([value + 1, value - 1])
        return [row for row in rows if row != value]
    rows = [None, "name", value + (None,), value + value[-1:], value[:-1], value[1:], (value,)]
    for at, part in enumerate(value):
        rows.extend(value[:at] + (other,) + value[at + 1:] for other in spoilt(part))
    return [row for row in rows if row != value]


def pairs(rng, count, variables=2):
    """Pairs of terms, among them equal ones, subterms and ones that differ in one subterm."""
    for _ in range(count):
        left = random_term(rng, rng.randrange(1, 5), variables)
        choice = rng.randrange(4)
        if choice == 0:
            yield left, random_term(rng, rng.randrange(1, 5), variables)
            continue
        position = rng.choice(all_positions(left))
        if choice == 1:
            yield left, replace(left, position, random_term(rng, 2, variables))
        elif choice == 2:
            yield replace(left, position, random_term(rng, 3, variables)), left
        else:
            part = left
            for at in position:
                part = part[at]
            yield left, part


def check_answers(test, order, left, right, wanted):
    """Check all three methods for a pair whose reason is known."""
    for _ in range(2):
        test.assertEqual(order.reason(left, right), wanted)
        test.assertIs(order.greater(left, right), wanted is not None)
    test.assertIs(order.accepts(left, right, wanted), wanted is not None)
    if wanted is not None:
        test.assertIsNone(order.reason(right, left))
        test.assertIs(order.greater(right, left), False)
        test.assertIs(order.accepts(right, left, wanted), False)


def check_properties(test, rng, make, count=120):
    """Check the properties of point 26 for orders that make() gives."""
    for _ in range(count):
        order = make()
        terms = [random_term(rng, rng.randrange(1, 5), 2) for _ in range(4)]
        for one in terms:
            test.assertIs(order.greater(one, one), False)
            for two in terms:
                if not order.greater(one, two):
                    continue
                test.assertIs(order.greater(two, one), False)
                for three in terms:
                    if order.greater(two, three):
                        test.assertIs(order.greater(one, three), True)
                values = {0: random_term(rng, 3, 2), 1: random_term(rng, 3, 2)}
                test.assertIs(order.greater(plain_substitute(one, values), plain_substitute(two, values)), True)
                whole = random_term(rng, 3, 2)
                position = rng.choice(all_positions(whole))
                test.assertIs(order.greater(replace(whole, position, one), replace(whole, position, two)), True)


def check_unknown(test, order):
    """Check which name is reported by an order that knows a, b, g, h, f and k only."""
    for left, right, name in [("p", "a", "p"), ("a", "p", "p"), ("f(p, q)", "r", "p"), ("f(q, p)", "r", "q"),
                              ("f(x0, g(q))", "p(a)", "q"), ("x0", "f(x1, r(q))", "r"), ("g(a)", "f(g(p), q)", "p"),
                              ("k(a, b, p(q))", "q", "p"), ("p", "p", "p"), ("x0", "q(x0)", "q")]:
        calls = [lambda: order.greater(t(left), t(right)), lambda: order.reason(t(left), t(right))]
        calls.extend(lambda value=value: order.accepts(t(left), t(right), value) for value in ODD)
        for call in calls:
            with test.assertRaises(UnknownName) as caught:
                call()
            test.assertEqual(caught.exception.name, name)
    test.assertIs(order.greater(A, A), False)
    test.assertIs(order.greater(("f", A, B), A), True)
