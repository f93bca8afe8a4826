import unittest

from helpers import A, B, random_term, seeded, shuffled, signature, t, tower
from joinedends.errors import HallError, InvalidOrder, UnknownName
from joinedends.terms import symbols
from joinedends.weightorder import WeightOrder
from order_checks import ODD, check_answers, check_properties, check_unknown, pairs, spoilt

NAMES = "a b g h f k"
PLAIN = {"a": 1, "b": 1, "g": 2, "h": 1, "f": 0, "k": 3}
WEIGHT, POWER, NAME = ("weight",), ("power",), ("name",)


def plain_reason(ranks, weights, variable_weight, left, right):
    """The reason, found by the words of points 29 and 30 alone."""
    first, second = symbols(left), symbols(right)
    if any(first.count(variable) < second.count(variable) for variable in range(20)):
        return None
    total, other = [sum(weights.get(symbol, variable_weight) for symbol in row) for row in (first, second)]
    if total != other:
        return WEIGHT if total > other else None
    if isinstance(right, int):
        inner = left
        while isinstance(inner, tuple) and len(inner) == 2 and weights[inner[0]] == 0:
            inner = inner[1]
        return POWER if inner == right and left != right else None
    if isinstance(left, int) or left == right:
        return None
    if left[0] != right[0]:
        return NAME if ranks[left[0]] > ranks[right[0]] else None
    at = min(at for at in range(1, len(left)) if left[at] != right[at])
    inner = plain_reason(ranks, weights, variable_weight, left[at], right[at])
    return None if inner is None else ("lexical", at, inner)


def random_weights(rng, names):
    """Small weights that fulfil all conditions, and a variable weight."""
    variable_weight = rng.randrange(1, 3)
    weights = {name: rng.randrange(0, 3) for name in names.split()}
    for name in ("a", "b", "c"):
        weights[name] = rng.randrange(variable_weight, 4)
    for name in ("g", "h"):
        weights[name] = rng.randrange(0 if names.endswith(name) else 1, 3)
    return weights, variable_weight


def random_order(rng):
    names = shuffled(rng)
    if rng.random() < 0.5:
        names = names.replace("g", "").replace("  ", " ").strip() + " g"
    weights, variable_weight = random_weights(rng, names)
    ranks = {name: rank for rank, name in enumerate(names.split())}
    return WeightOrder(signature(names), weights, variable_weight), ranks, weights, variable_weight


class WeightOrderTest(unittest.TestCase):
    def setUp(self):
        self.order = WeightOrder(signature(NAMES), PLAIN, 1)
        # Here h is weightless and the greatest operation.
        self.towers = WeightOrder(signature("a b k f g h"), {"a": 2, "b": 3, "k": 1, "f": 1, "g": 1, "h": 0}, 2)

    def check(self, order, left, right, wanted):
        check_answers(self, order, t(left), t(right), wanted)

    def test_weights(self):
        for text, wanted in [("x0", 1), ("x19", 1), ("a", 1), ("g(a)", 3), ("f(x0, x0)", 2), ("k(a, x1, g(h(b)))", 9)]:
            self.assertEqual(self.order.weight(t(text)), wanted)
        for text, wanted in [("x0", 2), ("h(h(x0))", 2), ("b", 3), ("f(h(a), b)", 6)]:
            self.assertEqual(self.towers.weight(t(text)), wanted)

    def test_weight(self):
        self.check(self.order, "g(a)", "h(b)", WEIGHT)
        self.check(self.order, "g(x0)", "x0", WEIGHT)
        self.check(self.order, "f(x0, g(x0))", "f(g(x0), a)", None)
        self.check(self.order, "k(x0, x1, x1)", "f(x1, f(x1, x0))", WEIGHT)
        self.check(self.order, "f(a, b)", "b", WEIGHT)
        self.check(self.order, "h(a)", "x0", None)

    def test_each_variable_occurs_often_enough(self):
        self.check(self.order, "k(x0, x0, a)", "f(x0, x0)", WEIGHT)
        self.check(self.order, "k(x0, a, a)", "f(x0, x0)", None)
        self.check(self.order, "k(x0, x0, x0)", "f(x0, x1)", None)
        self.check(self.order, "f(b, x0)", "f(a, x1)", None)
        self.check(self.order, "f(b, x0)", "f(a, x0)", ("lexical", 1, NAME))
        self.check(self.order, "f(f(x0, a), x0)", "f(f(a, x0), x0)", None)
        self.check(self.order, "f(f(a, x0), x1)", "f(f(x1, x0), a)", None)

    def test_power(self):
        self.check(self.towers, "h(x0)", "x0", POWER)
        self.check(self.towers, "h(h(h(x7)))", "x7", POWER)
        self.check(self.towers, "h(x0)", "x1", None)
        self.check(self.towers, "a", "x0", None)
        self.check(self.towers, "x0", "x0", None)
        self.check(self.towers, "h(g(x0))", "x0", WEIGHT)
        check_answers(self, self.towers, tower("h", 29, 3), 3, POWER)

    def test_name(self):
        self.check(self.order, "b", "a", NAME)
        self.check(self.order, "f(a, b)", "h(a)", NAME)
        self.check(self.order, "h(f(a, x0))", "g(x0)", NAME)
        self.check(self.towers, "h(a)", "a", NAME)
        self.check(self.towers, "h(f(x0, x0))", "f(x0, x0)", NAME)
        self.check(self.towers, "h(k(a, a, a))", "f(a, b)", WEIGHT)

    def test_lexical(self):
        self.check(self.order, "f(b, a)", "f(a, b)", ("lexical", 1, NAME))
        self.check(self.order, "k(x0, f(b, x1), a)", "k(x0, f(a, x1), b)", ("lexical", 2, ("lexical", 1, NAME)))
        self.check(self.order, "f(f(x0, x1), x2)", "f(x0, f(x1, x2))", ("lexical", 1, WEIGHT))
        self.check(self.order, "f(x0, g(x1))", "f(g(x0), x1)", None)
        self.check(self.order, "f(x0, x1)", "f(x1, x0)", None)
        self.check(self.towers, "f(h(x0), a)", "f(x0, a)", ("lexical", 1, POWER))
        self.check(self.towers, "h(h(a))", "h(a)", ("lexical", 1, NAME))
        self.check(self.towers, "h(h(x0))", "h(x0)", ("lexical", 1, POWER))

    def test_equal_terms(self):
        rng = seeded(61)
        for _ in range(50):
            term = random_term(rng, 4)
            check_answers(self, self.order, term, term, None)

    def test_against_the_words_of_the_document(self):
        rng = seeded(62)
        found = {}
        for _ in range(60):
            order, ranks, weights, variable_weight = random_order(rng)
            for left, right in pairs(rng, 40):
                wanted = plain_reason(ranks, weights, variable_weight, left, right)
                check_answers(self, order, left, right, wanted)
                found[wanted and wanted[0]] = found.get(wanted and wanted[0], 0) + 1
                self.assertEqual(order.weight(left),
                                 sum(weights.get(symbol, variable_weight) for symbol in symbols(left)))
        self.assertEqual(len(found), 5)
        self.assertGreater(min(found.values()), 2)

    def test_the_properties_of_an_order(self):
        rng = seeded(63)
        check_properties(self, rng, lambda: random_order(rng)[0])

    def test_odd_and_spoilt_values(self):
        rng = seeded(64)
        for _ in range(60):
            order = random_order(rng)[0]
            for left, right in pairs(rng, 4):
                wanted = order.reason(left, right)
                for value in ODD + spoilt(wanted) + [("lexical", 1, wanted), ("lexical", 2, wanted)]:
                    self.assertIs(order.accepts(left, right, value), wanted is not None and value == wanted)

    def test_reasons_of_other_terms(self):
        rng = seeded(65)
        rows = [(left, right, self.towers.reason(left, right)) for left, right in pairs(rng, 60)]
        for left, right, wanted in rows:
            for _, _, value in rows:
                self.assertIs(self.towers.accepts(left, right, value), wanted is not None and value == wanted)

    def test_unknown_names(self):
        check_unknown(self, self.order)
        for text, name in [("p", "p"), ("g(q)", "q"), ("f(p, q)", "p"), ("f(x0, r(p))", "r")]:
            with self.assertRaises(UnknownName) as caught:
                self.order.weight(t(text))
            self.assertEqual(caught.exception.name, name)
        self.assertEqual(WeightOrder(signature(""), {}, 1).weight(5), 1)


class ConditionsTest(unittest.TestCase):
    def refused(self, names, weights, variable_weight):
        before = dict(weights)
        for error in (InvalidOrder, HallError, ValueError):
            with self.assertRaises(error):
                WeightOrder(signature(names), weights, variable_weight)
        self.assertEqual(weights, before)

    def test_the_keys(self):
        self.refused("a g", {"a": 1}, 1)
        self.refused("a g", {"a": 1, "g": 1, "h": 1}, 1)
        self.refused("a g", {"a": 1, "h": 1}, 1)
        self.refused("a g", {}, 1)
        self.refused("", {"a": 1}, 1)
        WeightOrder(signature("a g"), {"g": 1, "a": 1}, 1)
        WeightOrder(signature(""), {}, 1)

    def test_the_bounds(self):
        for name in NAMES.split():
            self.refused(NAMES, {**PLAIN, name: -1}, 1)
            self.refused(NAMES, {**PLAIN, name: 1001}, 1)
            WeightOrder(signature(NAMES), {**PLAIN, name: 1000}, 1)
        self.refused(NAMES, {**PLAIN, "a": 2000, "b": 2000}, 1)

    def test_the_variable_weight(self):
        for variable_weight in (0, -1, 1001):
            self.refused("g", {"g": 1}, variable_weight)
            self.refused("a", {"a": 1000}, variable_weight)
        for variable_weight in (1, 2, 1000):
            self.assertEqual(WeightOrder(signature("a"), {"a": 1000}, variable_weight).weight(0), variable_weight)

    def test_constants_weigh_at_least_as_much_as_variables(self):
        self.refused("a g", {"a": 0, "g": 1}, 1)
        self.refused("a b", {"a": 3, "b": 2}, 3)
        self.refused("a b", {"a": 2, "b": 3}, 3)
        WeightOrder(signature("a b"), {"a": 3, "b": 4}, 3)
        WeightOrder(signature("g f"), {"g": 1, "f": 0}, 3)

    def test_weightless_operations(self):
        self.refused("g a", {"g": 0, "a": 1}, 1)
        self.refused("g h", {"g": 0, "h": 1}, 1)
        self.refused("g h", {"g": 0, "h": 0}, 1)
        WeightOrder(signature("a g"), {"a": 1, "g": 0}, 1)
        WeightOrder(signature("g h"), {"g": 1, "h": 0}, 1)
        WeightOrder(signature("f k a"), {"f": 0, "k": 0, "a": 1}, 1)

    def test_later_changes(self):
        weights = dict(PLAIN)
        order = WeightOrder(signature(NAMES), weights, 1)
        weights["a"] = 100
        weights["p"] = 1
        del weights["b"]
        self.assertEqual(order.weight(t("f(a, b)")), 2)
        self.assertIs(order.greater(B, A), True)
        with self.assertRaises(UnknownName):
            order.weight(("p",))


if __name__ == "__main__":
    unittest.main()
