import functools
import itertools
import unittest

from helpers import A, B, all_positions, bush, comb, plain_substitute, random_term, seeded, sized, t, tower
from joinedends.errors import HallError, NoPosition, TooLarge
from joinedends.terms import (canonical, check_size, compare_terms, depth, is_ground, is_variable, occurs,
                              positions, replace, size, substitute, subterm, symbols, variables)

BIG = ("k", ("f", 3, A), ("g", 0), ("f", ("g", 3), 12))


class MeasureTest(unittest.TestCase):
    def test_variables(self):
        for variable in range(20):
            self.assertIs(is_variable(variable), True)
            self.assertIs(is_ground(variable), False)
            self.assertEqual((size(variable), depth(variable)), (1, 1))

    def test_constants(self):
        self.assertIs(is_variable(A), False)
        self.assertIs(is_ground(A), True)
        self.assertEqual((size(A), depth(A)), (1, 1))

    def test_applications(self):
        for term, count, height, ground in [
                (("g", 0), 2, 2, False), (("g", A), 2, 2, True),
                (("f", A, B), 3, 2, True), (("f", A, ("g", B)), 4, 3, True),
                (("f", ("g", ("g", 1)), A), 5, 4, False),
                (("k", A, B, 0), 4, 2, False), (("k", A, ("k", A, B, A), B), 7, 3, True),
                (BIG, 10, 4, False)]:
            for _ in range(2):
                self.assertIs(is_variable(term), False)
                self.assertEqual(size(term), count)
                self.assertEqual(depth(term), height)
                self.assertIs(is_ground(term), ground)

    def test_large_terms(self):
        self.assertEqual(size(bush("f", 8, 0)), 511)
        self.assertEqual(depth(bush("f", 8, 0)), 9)
        self.assertEqual((size(tower("g", 29, A)), depth(tower("g", 29, A))), (30, 30))
        for count in range(1, 401):
            self.assertEqual(size(sized(count)), count)

    def test_check_size(self):
        for term in (0, A, sized(400), tower("g", 29, 0)):
            self.assertIsNone(check_size(term))
        for term in (sized(401), tower("g", 30, 0), tower("g", 59, A), sized(4000), comb("f", 59, 0)):
            with self.assertRaises(TooLarge):
                check_size(term)


class SymbolsTest(unittest.TestCase):
    def test_order_from_left_to_right(self):
        self.assertEqual(symbols(7), [7])
        self.assertEqual(symbols(A), ["a"])
        self.assertEqual(symbols(BIG), ["k", "f", 3, "a", "g", 0, "f", "g", 3, 12])

    def test_variables(self):
        self.assertEqual(variables(BIG), [3, 0, 12])
        self.assertEqual(variables(A), [])
        self.assertEqual(variables(("f", 1, 1)), [1])
        every = A
        for variable in range(20):
            every = ("f", variable, every)
            self.assertEqual(variables(variable), [variable])
        self.assertEqual(variables(every), list(range(19, -1, -1)))

    def test_occurs(self):
        for variable in range(20):
            self.assertIs(occurs(variable, BIG), variable in (0, 3, 12))
            self.assertIs(occurs(variable, variable), True)
            self.assertIs(occurs(variable, A), False)

    def test_returned_lists_are_new(self):
        symbols(BIG).append("x")
        variables(BIG).clear()
        positions(BIG).clear()
        self.assertEqual(len(symbols(BIG)), 10)
        self.assertEqual(variables(BIG), [3, 0, 12])
        self.assertEqual(len(positions(BIG)), 10)


class PositionsTest(unittest.TestCase):
    def test_list(self):
        self.assertEqual(positions(0), [()])
        self.assertEqual(positions(A), [()])
        self.assertEqual(positions(BIG), [
            (), (1,), (1, 1), (1, 2), (2,), (2, 1), (3,), (3, 1), (3, 1, 1), (3, 2)])

    def test_random_terms(self):
        rng = seeded(1)
        for _ in range(50):
            term = random_term(rng, 5)
            new = random_term(rng, 2)
            self.assertEqual(positions(term), all_positions(term))
            for position in positions(term):
                part = subterm(term, position)
                self.assertEqual(replace(term, position, part), term)
                changed = replace(term, position, new)
                self.assertEqual(subterm(changed, position), new)
                self.assertEqual(replace(changed, position, part), term)

    def test_empty_position(self):
        self.assertEqual(subterm(BIG, ()), BIG)
        self.assertEqual(replace(BIG, (), 4), 4)
        self.assertEqual(subterm(5, ()), 5)
        self.assertEqual(replace(5, (), A), A)

    def test_subterm_and_replace(self):
        self.assertEqual(subterm(BIG, (3, 1)), ("g", 3))
        self.assertEqual(subterm(BIG, (1, 2)), A)
        self.assertEqual(replace(BIG, (3, 1, 1), B), ("k", ("f", 3, A), ("g", 0), ("f", ("g", B), 12)))
        self.assertEqual(replace(BIG, (2,), 9), ("k", ("f", 3, A), 9, ("f", ("g", 3), 12)))

    def test_no_position(self):
        for position in [(0,), (-1,), (4,), (1, 0), (1, -1), (1, -2), (1, 3), (2, 2), (3, 1, 2),
                         (1, 1, 1), (1, 2, 1), (2, 1, 1), (1, 1, 0), (1, 2, 0), (0, 1), (-3, 1)]:
            for error in (NoPosition, HallError, ValueError):
                with self.assertRaises(error):
                    subterm(BIG, position)
                with self.assertRaises(error):
                    replace(BIG, position, 0)
        for term in (3, A):
            for position in [(0,), (1,), (-1,), (1, 1)]:
                with self.assertRaises(NoPosition):
                    subterm(term, position)
                with self.assertRaises(NoPosition):
                    replace(term, position, A)


class OrderTest(unittest.TestCase):
    def test_size_first(self):
        self.assertEqual(compare_terms(("z",), ("a", 0)), -1)
        self.assertEqual(compare_terms(("a", ("a", 0)), ("z", 19)), 1)

    def test_first_unequal_symbols(self):
        rows = [0, 2, 10, 19, A, ("aa",), B, ("b", 3), ("g", 0), ("g", 2), ("g", 10), ("g", A), ("g", B),
                ("h", 0), ("f", 0, 5), ("f", 1, 0), ("f", 1, 2), ("f", 1, 10), ("f", 1, A), ("f", A, 0)]
        for first, second in itertools.product(range(len(rows)), repeat=2):
            wanted = (first > second) - (first < second)
            self.assertEqual(compare_terms(rows[first], rows[second]), wanted)

    def test_names_are_compared_as_strings(self):
        self.assertEqual(compare_terms(("ab",), B), -1)
        self.assertEqual(compare_terms(("abc",), ("ab",)), 1)

    def test_random_terms(self):
        rng = seeded(2)
        rows = [random_term(rng, 3) for _ in range(40)]
        for first, second in itertools.product(rows, repeat=2):
            found = compare_terms(first, second)
            self.assertEqual(found, -compare_terms(second, first))
            self.assertEqual(found == 0, first == second)
        rows = sorted(rows, key=functools.cmp_to_key(compare_terms))
        for first, second in itertools.combinations(rows, 2):
            self.assertLessEqual(compare_terms(first, second), 0)


class SubstituteTest(unittest.TestCase):
    def test_all_at_once(self):
        self.assertEqual(substitute(("f", 0, 1), {0: 1, 1: 0}), ("f", 1, 0))
        self.assertEqual(substitute(("f", 0, ("g", 1)), {0: ("f", 1, 0), 1: A}), ("f", ("f", 1, 0), ("g", A)))

    def test_other_variables_stay(self):
        self.assertEqual(substitute(("k", 0, 5, 19), {5: B, 6: A}), ("k", 0, B, 19))
        self.assertEqual(substitute(4, {5: B}), 4)
        self.assertEqual(substitute(4, {4: BIG}), BIG)

    def test_empty_substitution(self):
        self.assertEqual(substitute(BIG, {}), BIG)
        self.assertEqual(substitute(3, {}), 3)

    def test_the_substitution_is_unchanged(self):
        substitution = {0: ("f", 0, 3), 3: A}
        substitute(BIG, substitution)
        self.assertEqual(list(substitution.items()), [(0, ("f", 0, 3)), (3, A)])

    def test_random_terms(self):
        rng = seeded(3)
        for _ in range(100):
            term = random_term(rng, 4, 6)
            substitution = {key: random_term(rng, 3, 6) for key in rng.sample(range(6), 3)}
            self.assertEqual(substitute(term, substitution), plain_substitute(term, substitution))


class CanonicalTest(unittest.TestCase):
    def test_first_occurrence(self):
        self.assertEqual(canonical(("f", 7, ("f", 3, 7)), ("f", 3, 5)), (("f", 0, ("f", 1, 0)), ("f", 1, 2)))
        self.assertEqual(canonical(4, 4), (0, 0))
        self.assertEqual(canonical(A, 9), (A, 0))
        self.assertEqual(canonical(("f", 1, 0), 0), (("f", 0, 1), 1))
        self.assertEqual(canonical(A, ("g", B)), (A, ("g", B)))

    def test_the_sides_stay_in_their_order(self):
        self.assertEqual(canonical(t("g(x1)"), t("x1")), (("g", 0), 0))
        self.assertEqual(canonical(t("x1"), t("g(x1)")), (0, ("g", 0)))

    def test_renamed_equations(self):
        rng = seeded(4)
        for _ in range(60):
            left, right = random_term(rng, 4, 5), random_term(rng, 4, 5)
            names = rng.sample(range(20), 5)
            renaming = dict(enumerate(names))
            wanted = canonical(left, right)
            self.assertEqual(canonical(*wanted), wanted)
            renamed = plain_substitute(left, renaming), plain_substitute(right, renaming)
            self.assertEqual(canonical(*renamed), wanted)

    def test_twenty_variables(self):
        left = A
        for variable in range(20):
            left = ("f", variable, left)
        self.assertEqual(variables(left), list(range(19, -1, -1)))
        self.assertEqual(variables(canonical(left, 0)[0]), list(range(20)))
        self.assertEqual(canonical(left, 0)[1], 19)


if __name__ == "__main__":
    unittest.main()
