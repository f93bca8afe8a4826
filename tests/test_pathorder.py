import unittest

from helpers import A, B, bush, comb, random_term, seeded, shuffled, signature, t, tower
from joinedends.pathorder import PathOrder
from joinedends.terms import occurs
from order_checks import ODD, check_answers, check_properties, check_unknown, pairs, spoilt

# From the least to the greatest: a, b, g, h, f, k.
ORDER = PathOrder(signature("a b g h f k"))
VARIABLE = ("variable",)


def plain_reason(ranks, left, right):
    """The reason, found by the words of points 27 and 28 alone."""
    if isinstance(left, int):
        return None
    if isinstance(right, int) and occurs(right, left):
        return VARIABLE
    for at in range(1, len(left)):
        if left[at] == right:
            return ("argument", at, None)
        inner = plain_reason(ranks, left[at], right)
        if inner is not None:
            return ("argument", at, inner)
    if isinstance(right, int):
        return None
    if ranks[left[0]] > ranks[right[0]]:
        reasons = tuple(plain_reason(ranks, left, part) for part in right[1:])
        return None if None in reasons else ("name", reasons)
    if left[0] != right[0] or left == right:
        return None
    at = min(at for at in range(1, len(left)) if left[at] != right[at])
    inner = plain_reason(ranks, left[at], right[at])
    reasons = tuple(plain_reason(ranks, left, part) for part in right[at + 1:])
    return None if inner is None or None in reasons else ("lexical", at, inner, reasons)


def plain_accepts(ranks, left, right, value):
    """Whether the value is a reason, by the words of point 28 alone."""
    if not isinstance(value, tuple) or len(value) == 0 or isinstance(left, int):
        return False
    if value == VARIABLE:
        return isinstance(right, int) and occurs(right, left)
    if value[0] == "argument" and len(value) == 3:
        if value[1] not in range(1, len(left)):
            return False
        part = left[value[1]]
        return part == right if value[2] is None else plain_accepts(ranks, part, right, value[2])
    if isinstance(right, int):
        return False
    if value[0] == "name" and len(value) == 2 and isinstance(value[1], tuple):
        return (ranks[left[0]] > ranks[right[0]] and len(value[1]) == len(right) - 1
                and all(plain_accepts(ranks, left, part, one) for part, one in zip(right[1:], value[1])))
    if value[0] == "lexical" and len(value) == 4 and isinstance(value[3], tuple):
        if left[0] != right[0] or left == right:
            return False
        at = min(at for at in range(1, len(left)) if left[at] != right[at])
        return (value[1] == at and plain_accepts(ranks, left[at], right[at], value[2])
                and len(value[3]) == len(right) - 1 - at
                and all(plain_accepts(ranks, left, part, one) for part, one in zip(right[at + 1:], value[3])))
    return False


def many_reasons(ranks, left, right):
    """Reasons that left is greater than right, of each case that applies; not all, there are too many."""
    rows = []
    if isinstance(left, int):
        return rows
    if isinstance(right, tuple) and ranks[left[0]] > ranks[right[0]]:
        rows.extend(("name", reasons) for reasons in choices(ranks, left, right[1:]))
    if isinstance(right, tuple) and left[0] == right[0] and left != right:
        at = min(at for at in range(1, len(left)) if left[at] != right[at])
        for inner in many_reasons(ranks, left[at], right[at]):
            rows.extend(("lexical", at, inner, reasons) for reasons in choices(ranks, left, right[at + 1:]))
    if isinstance(right, int) and occurs(right, left):
        rows.append(VARIABLE)
    for at in range(1, len(left)):
        if left[at] == right:
            rows.append(("argument", at, None))
        rows.extend(("argument", at, inner) for inner in many_reasons(ranks, left[at], right)[:2])
    return rows[:2] + rows[2:][-3:]


def choices(ranks, left, parts):
    rows = [()]
    for part in parts:
        rows = [row + (one,) for row in rows for one in many_reasons(ranks, left, part)][:3]
    return rows


class PathOrderTest(unittest.TestCase):
    def check(self, left, right, wanted):
        check_answers(self, ORDER, t(left), t(right), wanted)

    def test_a_variable_on_the_right(self):
        self.check("g(x0)", "x0", VARIABLE)
        self.check("k(a, f(b, x3), x1)", "x3", VARIABLE)
        for left, right in [("x0", "x0"), ("x0", "x1"), ("a", "x0"), ("g(x1)", "x0"), ("f(a, x2)", "x12")]:
            self.check(left, right, None)

    def test_a_variable_on_the_left(self):
        for right in ["a", "g(x0)", "g(a)", "x0", "x1", "f(x0, x1)"]:
            self.check("x0", right, None)

    def test_argument(self):
        self.check("g(b)", "b", ("argument", 1, None))
        self.check("f(a, g(b))", "g(b)", ("argument", 2, None))
        self.check("f(a, g(b))", "b", ("argument", 2, ("argument", 1, None)))
        self.check("g(h(b))", "h(a)", ("argument", 1, ("lexical", 1, ("name", ()), ())))
        self.check("g(f(x0, x1))", "h(x0)", ("argument", 1, ("name", (VARIABLE,))))
        self.check("g(a)", "h(a)", None)
        self.check("g(f(x0, x1))", "h(x2)", None)

    def test_the_least_argument_is_used(self):
        self.check("k(a, b, b)", "b", ("argument", 2, None))
        self.check("k(g(b), b, h(b))", "b", ("argument", 1, ("argument", 1, None)))
        self.check("k(b, f(a, a), h(a))", "h(a)", ("argument", 2, ("name", (("argument", 1, None),))))

    def test_a_proper_subterm(self):
        for left in ["g(x0)", "f(a, b)", "k(x0, g(a), f(b, g(x1)))"]:
            for part in t(left)[1:]:
                self.assertIs(ORDER.greater(t(left), part), True)
                self.assertIs(ORDER.greater(part, t(left)), False)

    def test_name(self):
        self.check("b", "a", ("name", ()))
        self.check("h(a)", "b", ("name", ()))
        self.check("f(x0, x1)", "h(g(x1))", ("name", (("name", (VARIABLE,)),)))
        self.check("h(x0)", "g(g(x0))", ("name", (("name", (VARIABLE,)),)))
        self.check("k(a, x0, b)", "f(x0, b)", ("name", (VARIABLE, ("argument", 3, None))))
        self.check("h(x0)", "g(x1)", None)
        self.check("g(x0)", "h(x0)", None)
        self.check("h(a)", "g(f(a, a))", None)

    def test_lexical(self):
        self.check("g(b)", "g(a)", ("lexical", 1, ("name", ()), ()))
        self.check("f(x0, b)", "f(x0, a)", ("lexical", 2, ("name", ()), ()))
        self.check("f(b, x0)", "f(a, x0)", ("lexical", 1, ("name", ()), (VARIABLE,)))
        self.check("k(x0, b, x1)", "k(x0, a, g(x1))", ("lexical", 2, ("name", ()), (("name", (VARIABLE,)),)))
        self.check("f(f(x0, x1), x2)", "f(x0, f(x1, x2))",
                   ("lexical", 1, VARIABLE, (("lexical", 1, VARIABLE, (VARIABLE,)),)))
        self.check("f(g(x0), x1)", "f(x0, g(x2))", None)
        self.check("f(b, a)", "f(a, k(a, a, a))", None)
        self.check("f(x0, x1)", "f(x1, x0)", None)
        self.check("f(a, b)", "f(a, b)", None)

    def test_a_later_argument_may_be_great_enough(self):
        self.check("f(a, f(b, a))", "f(b, a)", ("argument", 2, None))
        self.check("f(a, f(b, b))", "f(b, a)", ("argument", 2, ("lexical", 2, ("name", ()), ())))

    def test_equal_terms(self):
        rng = seeded(51)
        for _ in range(50):
            term = random_term(rng, 4)
            check_answers(self, ORDER, term, term, None)

    def test_the_first_case_is_used(self):
        self.check("h(g(a))", "g(a)", ("argument", 1, None))
        self.check("k(x0, g(x0), b)", "g(x0)", ("argument", 2, None))
        self.check("f(f(b, a), a)", "f(b, a)", ("argument", 1, None))

    def test_against_the_words_of_the_document(self):
        rng = seeded(52)
        greater = 0
        for _ in range(40):
            names = shuffled(rng)
            order = PathOrder(signature(names))
            ranks = {name: rank for rank, name in enumerate(names.split())}
            for left, right in pairs(rng, 40):
                wanted = plain_reason(ranks, left, right)
                greater += wanted is not None
                check_answers(self, order, left, right, wanted)
        self.assertGreater(greater, 200)

    def test_the_properties_of_an_order(self):
        rng = seeded(53)
        check_properties(self, rng, lambda: PathOrder(signature(shuffled(rng))))

    def test_unknown_names(self):
        check_unknown(self, ORDER)
        self.assertIs(PathOrder(signature("")).greater(0, 1), False)

    def test_the_signature_is_unchanged(self):
        names = signature("a g f")
        order = PathOrder(names)
        order.reason(t("f(a, g(a))"), t("g(a)"))
        self.assertEqual([(name, names.rank(name), names.arity(name)) for name in names],
                         [("a", 0, 0), ("g", 1, 1), ("f", 2, 2)])


class PathReasonTest(unittest.TestCase):
    def test_reasons_by_other_rules(self):
        rows = [("f(h(x0), x0)", "h(x0)", ("name", (VARIABLE,))),
                ("f(h(x0), x0)", "x0", ("argument", 1, VARIABLE)), ("f(h(x0), x0)", "x0", ("argument", 2, None)),
                ("f(h(x0), x0)", "x0", ("argument", 1, ("argument", 1, None))),
                ("h(h(b))", "h(b)", ("lexical", 1, ("argument", 1, None), ())),
                ("k(a, b, b)", "b", ("argument", 3, None)), ("f(b, g(b))", "a", ("argument", 2, ("name", ()))),
                ("f(b, g(b))", "a", ("argument", 2, ("argument", 1, ("name", ())))),
                ("f(b, g(b))", "a", ("name", ()))]
        for left, right, value in rows:
            self.assertNotEqual(ORDER.reason(t(left), t(right)), value)
            self.assertIs(ORDER.accepts(t(left), t(right), value), True)
            self.assertIs(ORDER.accepts(t(right), t(left), value), False)

    def test_many_reasons_are_accepted(self):
        rng = seeded(54)
        count = 0
        ranks = {name: rank for rank, name in enumerate("a b g h f k".split())}
        for left, right in pairs(rng, 400):
            for value in many_reasons(ranks, left, right):
                count += 1
                self.assertIs(ORDER.accepts(left, right, value), True)
        self.assertGreater(count, 500)

    def test_spoilt_reasons(self):
        rng = seeded(55)
        ranks = {name: rank for rank, name in enumerate("a b g h f k".split())}
        refused = 0
        for left, right in pairs(rng, 60):
            for value in many_reasons(ranks, left, right)[:2]:
                for other in spoilt(value)[:150]:
                    wanted = plain_accepts(ranks, left, right, other)
                    refused += not wanted
                    self.assertIs(ORDER.accepts(left, right, other), wanted)
        self.assertGreater(refused, 1000)

    def test_reasons_of_other_terms(self):
        rng = seeded(56)
        rows = [(left, right, ORDER.reason(left, right)) for left, right in pairs(rng, 40)]
        ranks = {name: rank for rank, name in enumerate("a b g h f k".split())}
        for left, right, _ in rows:
            for _, _, value in rows:
                self.assertIs(ORDER.accepts(left, right, value), plain_accepts(ranks, left, right, value))

    def test_odd_values(self):
        rng = seeded(57)
        ranks = {name: rank for rank, name in enumerate("a b g h f k".split())}
        for left, right in [(A, A), (0, 0), (B, A), (("g", 0), 0), (t("f(a, b)"), t("f(a, b)")), *pairs(rng, 40)]:
            for value in ODD:
                self.assertIs(ORDER.accepts(left, right, value), plain_accepts(ranks, left, right, value))

    def test_deep_terms(self):
        left, right = tower("h", 29, 0), tower("g", 29, 0)
        value = ORDER.reason(left, right)
        wanted = VARIABLE
        for _ in range(29):
            wanted = ("name", (wanted,))
        for _ in range(28):
            wanted = ("argument", 1, wanted)
        self.assertEqual(value, wanted)
        self.assertIs(ORDER.accepts(left, right, value), True)
        self.assertIs(ORDER.accepts(left, tower("g", 29, A), value), False)
        self.assertIs(ORDER.greater(tower("h", 29, A), tower("h", 28, A)), True)
        self.assertIs(ORDER.greater(tower("h", 29, A), tower("h", 29, B)), False)
        self.assertIs(ORDER.greater(tower("h", 29, B), tower("h", 29, A)), True)

    def test_large_terms(self):
        # If each pair of subterms were compared again for each way that leads to it, this would take very long.
        order = PathOrder(signature("a b c f"))
        left, right = comb("f", 29, ("f", A, A)), ("f", ("c",), comb("f", 28, ("f", A, B)))
        self.assertIs(order.greater(left, right), False)
        self.assertIs(order.greater(right, left), True)
        self.assertIs(order.accepts(right, left, order.reason(right, left)), True)
        left, right = bush("f", 7, A), bush("f", 7, B)
        self.assertIs(order.greater(left, right), False)
        self.assertIs(order.accepts(right, left, order.reason(right, left)), True)


if __name__ == "__main__":
    unittest.main()
