import unittest

from helpers import A, ARITIES, bush, seeded, shuffled, signature, t, tower
from joinedends.errors import HallError, InvalidOrder, UnknownName
from joinedends.polynomialorder import PolynomialOrder
from order_checks import ODD, check_answers, check_properties, check_unknown, pairs, spoilt

NAMES = "a b g h f k"
TABLE = {"a": [0], "b": [2], "g": [1, 1], "h": [0, 2], "f": [1, 1, 3], "k": [0, 1, 1, 2]}


def plain_polynomial(table, term):
    """The polynomial, made entry by entry from the polynomials of the arguments."""
    if isinstance(term, int):
        return [int(at == term + 1) for at in range(21)]
    row = table[term[0]]
    parts = [plain_polynomial(table, part) for part in term[1:]]
    entries = [sum(factor * part[at] for factor, part in zip(row[1:], parts)) for at in range(21)]
    return [entries[0] + row[0]] + entries[1:]


def plain_reason(table, left, right):
    p, q = plain_polynomial(table, left), plain_polynomial(table, right)
    if p[0] > q[0] and all(p[at] >= q[at] for at in range(1, 21)):
        return ("polynomial", tuple(p), tuple(q))
    return None


def random_table(rng):
    return {name: [rng.randrange(4)] + [rng.randrange(1, 4) for _ in range(arity)] for name, arity in ARITIES.items()}


def entries(constant, **coefficients):
    row = [constant] + [0] * 20
    for name, value in coefficients.items():
        row[int(name[1:]) + 1] = value
    return row


class PolynomialOrderTest(unittest.TestCase):
    def setUp(self):
        self.order = PolynomialOrder(signature(NAMES), TABLE)

    def check(self, left, right, is_greater):
        left, right = t(left), t(right)
        wanted = None
        if is_greater:
            wanted = ("polynomial", tuple(self.order.polynomial(left)), tuple(self.order.polynomial(right)))
        check_answers(self, self.order, left, right, wanted)

    def test_polynomials(self):
        for text, wanted in [
                ("x0", entries(0, x0=1)), ("x19", entries(0, x19=1)), ("a", entries(0)), ("b", entries(2)),
                ("g(x3)", entries(1, x3=1)), ("h(g(x3))", entries(2, x3=2)), ("f(x0, x1)", entries(1, x0=1, x1=3)),
                ("f(x1, f(x1, b))", entries(22, x1=4)), ("k(x0, h(x0), f(b, x5))", entries(6, x0=3, x5=6))]:
            found = self.order.polynomial(t(text))
            self.assertEqual(found, wanted)
            self.assertIsInstance(found, list)
            self.assertEqual(len(found), 21)
            found.clear()
            self.assertEqual(self.order.polynomial(t(text)), wanted)

    def test_large_entries(self):
        order = PolynomialOrder(signature("a g f"), {"a": [1000], "g": [0, 1000], "f": [0, 1000, 1000]})
        self.assertEqual(order.polynomial(tower("g", 29, A)), entries(1000 ** 30))
        self.assertEqual(order.polynomial(tower("g", 29, 19)), entries(0, x19=1000 ** 29))
        self.assertEqual(order.polynomial(bush("f", 7, 0)), entries(0, x0=2000 ** 7))

    def test_comparisons(self):
        self.check("b", "a", True)
        self.check("g(x0)", "x0", True)
        self.check("f(f(x0, x1), x2)", "f(x0, f(x1, x2))", False)
        self.check("f(x0, f(x1, x2))", "f(f(x0, x1), x2)", True)
        self.check("f(x0, g(x1))", "g(f(x0, x1))", True)
        self.check("f(x1, x0)", "a", True)
        self.check("k(b, x0, x1)", "f(x0, a)", True)

    def test_the_constant_is_greater_and_no_coefficient_is_less(self):
        self.check("h(x0)", "x0", False)
        self.check("h(a)", "a", False)
        self.check("g(x0)", "x1", False)
        self.check("g(g(x0))", "f(x0, x1)", False)
        self.check("g(g(x0))", "h(x0)", False)
        self.check("f(x0, x1)", "f(x1, x0)", False)
        self.check("g(x19)", "x19", True)
        self.check("g(x0)", "x19", False)
        self.check("x0", "a", False)
        self.check("x0", "x0", False)

    def test_against_the_words_of_the_document(self):
        rng = seeded(71)
        greater = 0
        for _ in range(40):
            table = random_table(rng)
            order = PolynomialOrder(signature(shuffled(rng)), table)
            for left, right in pairs(rng, 40):
                wanted = plain_reason(table, left, right)
                greater += wanted is not None
                check_answers(self, order, left, right, wanted)
                self.assertEqual(order.polynomial(left), plain_polynomial(table, left))
        self.assertGreater(greater, 200)

    def test_the_properties_of_an_order(self):
        rng = seeded(72)
        check_properties(self, rng, lambda: PolynomialOrder(signature(shuffled(rng)), random_table(rng)))

    def test_odd_and_spoilt_values(self):
        rng = seeded(73)
        for left, right in [*pairs(rng, 20), (("g", 0), 0), (A, A)]:
            wanted = self.order.reason(left, right)
            p, q = tuple(self.order.polynomial(left)), tuple(self.order.polynomial(right))
            others = [("polynomial", p, q), ("polynomial", q, p), ("polynomial", p, p), ("polynomial", p), (p, q)]
            for value in ODD + others + spoilt(wanted):
                self.assertIs(self.order.accepts(left, right, value), wanted is not None and value == wanted)

    def test_reasons_of_other_terms(self):
        rng = seeded(74)
        rows = [(left, right, self.order.reason(left, right)) for left, right in pairs(rng, 60)]
        for left, right, wanted in rows:
            for _, _, value in rows:
                self.assertIs(self.order.accepts(left, right, value), wanted is not None and value == wanted)

    def test_unknown_names(self):
        check_unknown(self, self.order)
        for text, name in [("p", "p"), ("g(q)", "q"), ("f(p, q)", "p"), ("f(x0, r(p))", "r")]:
            with self.assertRaises(UnknownName) as caught:
                self.order.polynomial(t(text))
            self.assertEqual(caught.exception.name, name)
        self.assertEqual(PolynomialOrder(signature(""), {}).polynomial(4), entries(0, x4=1))


class ConditionsTest(unittest.TestCase):
    def refused(self, names, table):
        before = {name: list(row) for name, row in table.items()}
        for error in (InvalidOrder, HallError, ValueError):
            with self.assertRaises(error):
                PolynomialOrder(signature(names), table)
        self.assertEqual(table, before)

    def test_the_keys(self):
        self.refused("a g", {"a": [1]})
        self.refused("a g", {"a": [1], "g": [1, 1], "h": [1, 1]})
        self.refused("a g", {"a": [1], "h": [1, 1]})
        self.refused("a g", {})
        self.refused("", {"a": [1]})
        PolynomialOrder(signature("a g"), {"g": [1, 1], "a": [1]})
        PolynomialOrder(signature(""), {})

    def test_the_lengths(self):
        for name in NAMES.split():
            self.refused(NAMES, {**TABLE, name: []})
            self.refused(NAMES, {**TABLE, name: TABLE[name] + [1]})
            self.refused(NAMES, {**TABLE, name: TABLE[name][:-1]})

    def test_the_bounds(self):
        for name in NAMES.split():
            for at, entry in enumerate(TABLE[name]):
                least = 0 if at == 0 else 1
                for value in (least - 1, -5, 1001):
                    row = list(TABLE[name])
                    row[at] = value
                    self.refused(NAMES, {**TABLE, name: row})
                for value in (least, 1000):
                    row[at] = value
                    PolynomialOrder(signature(NAMES), {**TABLE, name: row})

    def test_later_changes(self):
        table = {name: list(row) for name, row in TABLE.items()}
        order = PolynomialOrder(signature(NAMES), table)
        table["g"][0] = 50
        table["f"].clear()
        table["p"] = [1]
        del table["b"]
        self.assertEqual(order.polynomial(t("f(b, g(x0))")), entries(6, x0=3))
        with self.assertRaises(UnknownName):
            order.polynomial(("p",))


if __name__ == "__main__":
    unittest.main()
