import unittest

from helpers import A, B, bush, plain_substitute, plain_unify, random_term, seeded, sized, t, tower
from joinedends.errors import HallError, TooLarge
from joinedends.matching import match_lists
from joinedends.terms import depth, occurs, size, variables
from joinedends.unification import raised, unify


def rows(name, count, make):
    """A term whose arguments are make(0), make(1) .. make(count - 1), in a row."""
    result = A
    for at in range(count - 1, -1, -1):
        result = (name, make(at), result)
    return result


class UnifyTest(unittest.TestCase):
    def test_solved_forms(self):
        for left, right, wanted in [
                ("a", "a", {}), ("x0", "x0", {}), ("x0", "a", {0: A}), ("g(b)", "x3", {3: t("g(b)")}),
                ("f(x0, b)", "f(a, x1)", {0: A, 1: B}),
                ("f(x0, x1)", "f(g(x1), a)", {0: t("g(a)"), 1: A}),
                ("f(x0, x0)", "f(x1, a)", {0: A, 1: A}),
                ("k(x0, x1, x2)", "k(g(x1), g(x2), a)", {0: t("g(g(a))"), 1: t("g(a)"), 2: A})]:
            self.assertEqual(unify(t(left), t(right)), wanted)
            self.assertEqual(unify(t(right), t(left)), wanted)

    def test_of_two_variables_the_smaller_is_the_value(self):
        self.assertEqual(unify(3, 5), {5: 3})
        self.assertEqual(unify(5, 3), {5: 3})
        self.assertEqual(unify(10, 9), {10: 9})
        self.assertEqual(unify(t("k(x4, x2, x7)"), t("k(x2, x7, x1)")), {2: 1, 4: 1, 7: 1})
        self.assertEqual(unify(t("f(x1, x2)"), t("f(x2, x1)")), {2: 1})
        self.assertEqual(unify(t("f(x5, g(x3))"), t("f(x3, x0)")), {5: 3, 0: t("g(x3)")})
        self.assertEqual(unify(t("k(x5, x0, x5)"), t("k(x3, g(x5), x3)")), {5: 3, 0: t("g(x3)")})

    def test_no_unifier(self):
        for left, right in [("a", "b"), ("g(x0)", "h(x0)"), ("g(x0)", "a"), ("f(x0, x0)", "f(a, b)"),
                            ("f(x0, x1)", "g(x0)"), ("f(x0, g(x0))", "f(g(a), g(b))")]:
            self.assertIsNone(unify(t(left), t(right)))
            self.assertIsNone(unify(t(right), t(left)))

    def test_a_variable_and_a_term_that_contains_it(self):
        for left, right in [("x0", "g(x0)"), ("f(x0, x1)", "f(g(x1), g(x0))"), ("f(x0, x0)", "f(x1, g(x1))"),
                            ("k(x0, x1, x2)", "k(g(x1), g(x2), g(x0))"), ("f(x0, g(x0))", "f(x1, x1)")]:
            self.assertIsNone(unify(t(left), t(right)))
            self.assertIsNone(unify(t(right), t(left)))

    def test_shared_variables(self):
        self.assertEqual(unify(t("f(x0, g(x1))"), t("f(x1, x2)")), {1: 0, 2: t("g(x0)")})
        self.assertEqual(unify(t("f(x0, x1)"), t("f(x1, x0)")), {1: 0})
        self.assertEqual(unify(t("f(g(x0), x1)"), t("f(x1, g(x0))")), {1: t("g(x0)")})

    def test_random_terms(self):
        rng = seeded(7)
        unified = 0
        for _ in range(600):
            left, right = random_term(rng, 4, 5), random_term(rng, 4, 5)
            wanted = plain_unify(left, right)
            found = unify(left, right)
            self.assertEqual(found, wanted)
            self.assertEqual(unify(right, left), wanted)
            if found:
                unified += 1
                self.check_solved(left, right, found)
        self.assertGreater(unified, 50)

    def check_solved(self, left, right, found):
        self.assertEqual(plain_substitute(left, found), plain_substitute(right, found))
        names = sorted(set(variables(left) + variables(right)))
        for key, value in found.items():
            self.assertIn(key, names)
            self.assertFalse(any(occurs(other, value) for other in found))
            if isinstance(value, int):
                self.assertLess(value, key)

    def test_most_general(self):
        rng = seeded(8)
        for _ in range(200):
            left = random_term(rng, 3, 4)
            values = {key: random_term(rng, 2, 4) for key in range(4)}
            right = plain_substitute(left, {key: value + 10 for key, value in zip(range(4), (3, 2, 1, 0))})
            values.update({13 - key: values[key] for key in range(4)})
            found = unify(left, right)
            names = sorted(set(variables(left) + variables(right)))
            solved = [plain_substitute(name, found) for name in names]
            self.assertIsNotNone(match_lists(solved, [values[name] for name in names]))

    def test_bounds_of_values(self):
        self.assertEqual(unify(0, sized(400)), {0: sized(400)})
        self.assertEqual(unify(tower("g", 29, A), 3), {3: tower("g", 29, A)})
        left, right = ("f", 0, 1), ("f", ("f", 1, 1), sized(199))
        self.assertEqual(size(unify(left, right)[0]), 399)
        deep = unify(("f", 0, 1), ("f", tower("g", 15, 1), tower("g", 14, A)))
        self.assertEqual(depth(deep[0]), 30)
        for left, right in [(("f", 0, 1), ("f", ("f", 1, 1), sized(200))),
                            (("f", 0, 1), ("f", tower("g", 15, 1), tower("g", 15, A)))]:
            for error in (TooLarge, HallError, ValueError):
                with self.assertRaises(error):
                    unify(left, right)

    def test_large_common_terms_with_small_values(self):
        left = bush("f", 7, 0)
        right = bush("f", 7, 1)
        self.assertEqual(unify(left, right), {1: 0})
        value = sized(300)
        self.assertEqual(unify(("k", 0, 0, 0), ("k", value, 0, 0)), {0: value})

    def test_too_large_values_are_not_built(self):
        left = rows("f", 20, lambda at: at)
        right = rows("f", 20, lambda at: bush("f", 3, at + 1) if at < 19 else A)
        with self.assertRaises(TooLarge):
            unify(left, right)
        with self.assertRaises(TooLarge):
            unify(right, left)

    def test_no_unifier_comes_before_too_large(self):
        left = rows("f", 20, lambda at: at)
        right = rows("f", 20, lambda at: bush("f", 3, at + 1) if at < 19 else A)
        for one, other in [(("f", left, A), ("f", right, B)), (("f", A, left), ("f", B, right)),
                           (("f", left, 0), ("f", right, ("g", 0)))]:
            self.assertIsNone(unify(one, other))
            self.assertIsNone(unify(other, one))

    def test_equal_large_values_are_compared_once(self):
        # Each of x0 .. x9 and of x10 .. x19 would be a term of size 8 ** 9 and more.
        left = rows("f", 9, lambda at: ("f", at, at + 10))
        right = rows("f", 9, lambda at: ("f", bush("f", 3, at + 1), bush("f", 3, at + 11)))
        with self.assertRaises(TooLarge):
            unify(("k", left, 0, A), ("k", right, 10, A))
        self.assertIsNone(unify(("k", left, 0, A), ("k", right, 10, B)))

    def test_results_are_new(self):
        found = unify(0, A)
        found.clear()
        self.assertEqual(unify(0, A), {0: A})


class RaisedTest(unittest.TestCase):
    def test_each_variable_is_raised_by_ten(self):
        for variable in range(10):
            self.assertEqual(raised(variable), variable + 10)
        self.assertEqual(raised(A), A)
        self.assertEqual(raised(t("k(x0, f(x9, x0), g(x3))")), t("k(x10, f(x19, x10), g(x13))"))

    def test_too_large(self):
        for term in [10, 15, 19, t("f(x0, x10)"), t("f(x19, x0)"), t("g(g(x11))")]:
            for error in (TooLarge, HallError, ValueError):
                with self.assertRaises(error):
                    raised(term)


if __name__ == "__main__":
    unittest.main()
