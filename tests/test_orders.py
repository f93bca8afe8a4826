import unittest

from helpers import A, B, random_term, seeded, signature, t
from joinedends.errors import HallError, InvalidOrder, UnknownName
from joinedends.orders import make_order
from joinedends.pathorder import PathOrder
from joinedends.polynomialorder import PolynomialOrder
from joinedends.weightorder import WeightOrder
from order_checks import pairs, spoilt

NAMES = signature("a b g h f k")
WEIGHTS = {"a": 1, "b": 2, "g": 1, "h": 3, "f": 0, "k": 1}
TABLE = {"a": [0], "b": [2], "g": [1, 1], "h": [0, 2], "f": [1, 1, 3], "k": [0, 1, 1, 2]}


class MakeOrderTest(unittest.TestCase):
    def test_orders_answer_as_the_classes_do(self):
        rng = seeded(81)
        for description, order, kind in [
                (("path",), PathOrder(NAMES), PathOrder),
                (("weight", WEIGHTS, 1), WeightOrder(NAMES, WEIGHTS, 1), WeightOrder),
                (("polynomial", TABLE), PolynomialOrder(NAMES, TABLE), PolynomialOrder)]:
            made = make_order(NAMES, description)
            self.assertIsInstance(made, kind)
            greater = 0
            for left, right in pairs(rng, 60):
                value = order.reason(left, right)
                greater += value is not None
                self.assertIs(made.greater(left, right), value is not None)
                self.assertEqual(made.reason(left, right), value)
                for other in [value] + spoilt(value)[:20]:
                    self.assertIs(made.accepts(left, right, other), order.accepts(left, right, other))
            self.assertGreater(greater, 10)
            with self.assertRaises(UnknownName):
                made.greater(A, ("p",))

    def test_the_methods_of_their_own(self):
        rng = seeded(82)
        weight, polynomial = make_order(NAMES, ("weight", WEIGHTS, 1)), make_order(NAMES, ("polynomial", TABLE))
        for _ in range(20):
            term = random_term(rng, 4)
            self.assertEqual(weight.weight(term), WeightOrder(NAMES, WEIGHTS, 1).weight(term))
            self.assertEqual(polynomial.polynomial(term), PolynomialOrder(NAMES, TABLE).polynomial(term))

    def refused(self, *descriptions):
        for description in descriptions:
            for error in (InvalidOrder, HallError, ValueError):
                with self.assertRaises(error):
                    make_order(NAMES, description)

    def test_other_words(self):
        self.refused(("",), ("Path",), ("paths",), ("lexical",), ("path ",), ("p",), ("weights", WEIGHTS, 1),
                     ("polynom", TABLE), ("polynomial ", TABLE), ("", WEIGHTS, 1))

    def test_other_lengths(self):
        self.refused(("path", 1), ("path", {}), ("path", WEIGHTS, 1), ("weight",), ("weight", WEIGHTS),
                     ("weight", WEIGHTS, 1, 1), ("weight", 1), ("polynomial",), ("polynomial", TABLE, 1),
                     ("polynomial", TABLE, TABLE))

    def test_other_kinds(self):
        self.refused(("weight", 1, WEIGHTS), ("weight", 1, 1), ("weight", WEIGHTS, WEIGHTS), ("weight", WEIGHTS, {}),
                     ("polynomial", 0), ("polynomial", 7))

    def test_what_the_classes_refuse(self):
        self.refused(("weight", {**WEIGHTS, "g": 0}, 1), ("weight", WEIGHTS, 0), ("weight", WEIGHTS, 2),
                     ("weight", {}, 1), ("weight", {**WEIGHTS, "?": 1}, 1), ("weight", WEIGHTS, 1001),
                     ("polynomial", {}), ("polynomial", {**TABLE, "g": [1]}), ("polynomial", {**TABLE, "g": [1, 0]}),
                     ("polynomial", {**TABLE, "": []}), ("polynomial", {**TABLE, "a": [-1]}))

    def test_later_changes(self):
        weights, table = dict(WEIGHTS), {name: list(row) for name, row in TABLE.items()}
        weight, polynomial = make_order(NAMES, ("weight", weights, 1)), make_order(NAMES, ("polynomial", table))
        weights["a"] = 50
        table["a"][0] = 50
        self.assertEqual(weight.weight(A), 1)
        self.assertEqual(polynomial.polynomial(A)[0], 0)
        self.assertIs(weight.greater(B, A), True)
        self.assertIs(polynomial.greater(t("g(x0)"), 0), True)


if __name__ == "__main__":
    unittest.main()
