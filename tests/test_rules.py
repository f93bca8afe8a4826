import unittest

from helpers import A, B, bush, comb, eq, random_term, rules_of, seeded, sized, t, tower
from joinedends.errors import HallError, InvalidRule
from joinedends.matching import match_term
from joinedends.rules import RuleIndex, check_rules, is_rule


def opened(term, start=0):
    """The term with its variable occurrences replaced by different variables, and the next free one."""
    if isinstance(term, int):
        return start, start + 1
    parts = [term[0]]
    for part in term[1:]:
        part, start = opened(part, start)
        parts.append(part)
    return tuple(parts), start


def plain_candidates(rules, term):
    goal = opened(term)[0]
    return [number for number, (left, _) in enumerate(rules) if match_term(opened(left)[0], goal) is not None]


class IsRuleTest(unittest.TestCase):
    def test_rules(self):
        for text in ["a = b", "a = a", "g(x0) = x0", "f(x0, x1) = f(x1, x0)", "f(x0, x0) = g(x0)", "g(x9) = a",
                     "k(x0, x1, x2) = f(x2, x0)", "f(x12, a) = x12"]:
            self.assertIs(is_rule(*eq(text)), True)

    def test_no_rules(self):
        for text in ["x0 = x0", "x0 = a", "x3 = g(x3)", "a = x0", "g(x0) = x1", "f(x0, a) = f(x0, x1)",
                     "g(a) = k(a, a, x7)"]:
            self.assertIs(is_rule(*eq(text)), False)


class CheckRulesTest(unittest.TestCase):
    def test_rules(self):
        for rules in [[], rules_of("a = b"), rules_of("a = b", "g(x0) = x0", "a = b")]:
            before = list(rules)
            self.assertIsNone(check_rules(rules))
            self.assertEqual(rules, before)

    def test_the_first_one_that_is_none(self):
        good, free, bare = eq("g(x0) = x0"), eq("g(x0) = x1"), eq("x0 = g(x0)")
        for rules, index in [([bare], 0), ([free], 0), ([good, bare], 1), ([good, good, free, good, bare], 2),
                             ([free, good, bare], 0), ([good] * 39 + [bare], 39)]:
            before = list(rules)
            for call in (check_rules, RuleIndex):
                for error in (InvalidRule, HallError, ValueError):
                    with self.assertRaises(error) as caught:
                        call(rules)
                    self.assertEqual(caught.exception.index, index)
            self.assertEqual(rules, before)


class RuleIndexTest(unittest.TestCase):
    def test_ascending(self):
        index = RuleIndex(rules_of("f(x0, a) = a", "g(x0) = a", "f(x0, x1) = a", "f(b, x0) = b", "f(b, a) = a"))
        for text, wanted in [("f(b, a)", [0, 2, 3, 4]), ("f(a, a)", [0, 2]), ("f(b, b)", [2, 3]), ("g(g(b))", [1]),
                             ("f(x0, a)", [0, 2]), ("f(x0, x1)", [2]), ("f(b, x0)", [2, 3]), ("a", []), ("x0", []),
                             ("h(a)", []), ("g(x5)", [1]), ("f(g(a), k(a, b, x0))", [2])]:
            for _ in range(2):
                self.assertEqual(index.candidates(t(text)), wanted)

    def test_equal_left_sides(self):
        index = RuleIndex(rules_of("g(x0) = a", "g(x1) = x1", "h(x0) = a", "g(x0) = a", "g(a) = a", "g(a) = b"))
        self.assertEqual(index.candidates(t("g(a)")), [0, 1, 3, 4, 5])
        self.assertEqual(index.candidates(t("g(b)")), [0, 1, 3])
        self.assertEqual(index.candidates(t("g(x0)")), [0, 1, 3])

    def test_variables_that_occur_twice_fit_loosely(self):
        index = RuleIndex(rules_of("f(x0, x0) = x0", "f(x0, g(x0)) = x0", "k(x1, a, x1) = x1"))
        for text, wanted in [("f(a, b)", [0]), ("f(a, g(b))", [0, 1]), ("f(x0, x1)", [0]), ("k(a, a, b)", [2]),
                             ("k(a, x0, a)", []), ("f(x0, g(x1))", [0, 1])]:
            self.assertEqual(index.candidates(t(text)), wanted)

    def test_variables_of_the_term_fit_variables_only(self):
        index = RuleIndex(rules_of("f(x0, a) = a", "f(x0, g(x1)) = a"))
        self.assertEqual(index.candidates(t("f(x0, x1)")), [])
        self.assertEqual(index.candidates(0), [])

    def test_no_rule(self):
        index = RuleIndex([])
        for term in [A, 0, t("f(a, x0)")]:
            self.assertEqual(index.candidates(term), [])

    def test_later_changes(self):
        rules = rules_of("g(x0) = a", "h(x0) = a")
        index = RuleIndex(rules)
        rules[0] = eq("a = b")
        rules.append(eq("g(a) = b"))
        self.assertEqual(index.candidates(t("g(a)")), [0])
        self.assertEqual(index.candidates(A), [])
        found = index.candidates(t("g(a)"))
        found.append(7)
        self.assertEqual(index.candidates(t("g(a)")), [0])

    def test_against_the_words_of_the_document(self):
        rng = seeded(83)
        several = 0
        for _ in range(40):
            rules = []
            while len(rules) < 12:
                left = random_term(rng, rng.randrange(1, 4))
                if not isinstance(left, int):
                    rules.append((left, A))
            index = RuleIndex(rules)
            for _ in range(40):
                term = random_term(rng, rng.randrange(1, 5))
                found = index.candidates(term)
                several += len(found) > 1
                self.assertEqual(found, plain_candidates(rules, term))
        self.assertGreater(several, 100)

    def test_large_terms(self):
        lefts = [sized(400), comb("f", 29, 0), bush("f", 7, 1), tower("g", 29, B), bush("f", 7, A)]
        index = RuleIndex([(left, A) for left in lefts] * 8)
        for number, left in enumerate(lefts):
            self.assertIn(number, index.candidates(left))
            self.assertEqual(index.candidates(left), plain_candidates([(left, A) for left in lefts] * 8, left))


if __name__ == "__main__":
    unittest.main()
