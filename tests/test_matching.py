import unittest

from helpers import A, B, eq, plain_substitute, random_term, seeded, t
from joinedends.matching import is_instance, match_lists, match_term, subsumes
from joinedends.terms import variables


class MatchTest(unittest.TestCase):
    def test_variables_are_the_keys(self):
        self.assertEqual(match_term(0, A), {0: A})
        self.assertEqual(match_term(7, ("g", 3)), {7: ("g", 3)})
        self.assertEqual(match_term(A, A), {})
        self.assertEqual(match_term(t("f(x1, g(x5))"), t("f(a, g(f(b, x0)))")), {1: A, 5: t("f(b, x0)")})

    def test_no_match(self):
        for pattern, term in [("a", "b"), ("a", "x0"), ("g(x0)", "x0"), ("g(x0)", "h(x0)"), ("f(x0, a)", "f(a, x0)"),
                              ("g(x0)", "a"), ("a", "g(a)")]:
            self.assertIsNone(match_term(t(pattern), t(term)))

    def test_a_variable_that_occurs_twice(self):
        self.assertEqual(match_term(t("f(x0, x0)"), t("f(g(a), g(a))")), {0: t("g(a)")})
        self.assertIsNone(match_term(t("f(x0, x0)"), t("f(g(a), g(b))")))
        self.assertIsNone(match_term(t("f(x0, x0)"), t("f(x0, x1)")))
        self.assertIsNone(match_term(t("k(x0, a, x0)"), t("k(b, a, a)")))

    def test_terms_with_the_same_variables(self):
        self.assertEqual(match_term(t("f(x0, x1)"), t("f(x1, x0)")), {0: 1, 1: 0})
        self.assertEqual(match_term(t("f(x0, x1)"), t("f(x1, f(x0, x1))")), {0: 1, 1: t("f(x0, x1)")})
        self.assertEqual(match_term(0, t("g(x0)")), {0: t("g(x0)")})
        self.assertIsNone(match_term(t("f(x0, g(x0))"), t("f(x0, x0)")))

    def test_lists(self):
        self.assertEqual(match_lists([], []), {})
        self.assertEqual(match_lists([0, ("g", 1)], [A, ("g", B)]), {0: A, 1: B})
        self.assertEqual(match_lists([0, ("g", 0)], [A, ("g", A)]), {0: A})
        self.assertIsNone(match_lists([0, ("g", 0)], [A, ("g", B)]))
        self.assertIsNone(match_lists([A, B], [A, A]))

    def test_arguments_are_unchanged(self):
        patterns, terms = [("f", 0, 1), 2], [("f", A, B), ("g", 0)]
        found = match_lists(patterns, terms)
        self.assertEqual(found, {0: A, 1: B, 2: ("g", 0)})
        self.assertEqual((patterns, terms), ([("f", 0, 1), 2], [("f", A, B), ("g", 0)]))
        found.clear()
        self.assertEqual(match_lists(patterns, terms), {0: A, 1: B, 2: ("g", 0)})

    def test_random_terms(self):
        rng = seeded(6)
        found_some = 0
        for _ in range(300):
            pattern = random_term(rng, 3)
            values = {key: random_term(rng, 3) for key in variables(pattern)}
            self.assertEqual(match_term(pattern, plain_substitute(pattern, values)), values)
            other = random_term(rng, 3)
            found = match_term(pattern, other)
            if found is not None:
                found_some += 1
                self.assertEqual(sorted(found), sorted(variables(pattern)))
                self.assertEqual(plain_substitute(pattern, found), other)
        self.assertGreater(found_some, 10)


class InstanceTest(unittest.TestCase):
    def test_is_instance(self):
        general = eq("f(x0, x1) = f(x1, x0)")
        self.assertIs(is_instance(eq("f(a, g(x0)) = f(g(x0), a)"), general), True)
        self.assertIs(is_instance(general, general), True)
        self.assertIs(is_instance(eq("f(x3, x3) = f(x3, x3)"), general), True)
        self.assertIs(is_instance(general, eq("f(x3, x3) = f(x3, x3)")), False)

    def test_one_substitution_for_both_sides(self):
        self.assertIs(is_instance(eq("g(a) = h(b)"), eq("g(x0) = h(x0)")), False)
        self.assertIs(is_instance(eq("g(a) = h(b)"), eq("g(x0) = h(x1)")), True)
        self.assertIs(subsumes(eq("g(x0) = h(x0)"), eq("g(a) = h(b)")), False)

    def test_the_mirror_image_counts_for_subsumes_only(self):
        general, mirror = eq("g(x0) = x0"), eq("a = g(a)")
        self.assertIs(is_instance(mirror, general), False)
        self.assertIs(subsumes(general, mirror), True)
        self.assertIs(subsumes(mirror, general), False)
        self.assertIs(subsumes(general, eq("g(a) = a")), True)
        self.assertIs(subsumes(general, eq("g(a) = b")), False)

    def test_arguments_of_the_two_in_their_order(self):
        small, general = eq("g(a) = a"), eq("g(x0) = x0")
        self.assertIs(is_instance(small, general), True)
        self.assertIs(is_instance(general, small), False)
        self.assertIs(subsumes(general, small), True)
        self.assertIs(subsumes(small, general), False)


if __name__ == "__main__":
    unittest.main()
