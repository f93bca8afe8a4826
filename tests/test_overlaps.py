import copy
import unittest

from helpers import (A, B, all_positions, bush, eq, plain_substitute, plain_unify, random_term, rules_of, seeded, sized, t,
                     tower)
from joinedends.chains import visited
from joinedends.errors import HallError, InvalidRule, TooLarge
from joinedends.overlaps import overlap_at, overlaps
from joinedends.terms import depth, replace, size, subterm, variables

GROUP = rules_of("f(a, x0) = x0", "f(h(x0), x0) = a", "f(f(x0, x1), x2) = f(x0, f(x1, x2))")


def plain_overlap(rules, outer, inner, position):
    """The overlap (peak, left, right), by the words of point 37 alone, or None."""
    if position not in all_positions(rules[outer][0]):
        return None
    part = subterm(rules[outer][0], position)
    if isinstance(part, int) or (position == () and inner >= outer):
        return None
    raising = {name: name + 10 for name in range(10)}
    goal, new = [plain_substitute(side, raising) for side in rules[inner]]
    solved = plain_unify(part, goal)
    if solved is None:
        return None
    peak = plain_substitute(rules[outer][0], solved)
    left = replace(peak, position, plain_substitute(new, solved))
    right = plain_substitute(rules[outer][1], solved)
    renaming = {name: number for number, name in enumerate(variables(peak))}
    return tuple(plain_substitute(term, renaming) for term in (peak, left, right))


def random_rules(rng, count):
    rules = []
    while len(rules) < count:
        left, right = random_term(rng, rng.randrange(2, 4), 4), random_term(rng, 3, 4)
        if isinstance(left, tuple) and set(variables(right)) <= set(variables(left)):
            rules.append((left, right))
    return rules


class OverlapAtTest(unittest.TestCase):
    def check(self, rules, outer, inner, position, wanted):
        """Compare with the written peak, left and right term, and follow the steps."""
        found = overlap_at(rules, outer, inner, position)
        if wanted is None:
            self.assertIsNone(found)
            return
        peak, left, right, steps = found
        if isinstance(wanted, str):
            wanted = tuple(t(text) for text in wanted.split("; "))
        self.assertEqual((peak, left, right), wanted)
        self.assertEqual([step[:3] for step in steps],
                         [(("given", inner), False, position), (("given", outer), True, ())])
        self.assertEqual(visited(rules, [], left, steps), [left, peak, right])
        self.assertIsInstance(found, tuple)
        self.assertIsInstance(steps, list)

    def test_inside(self):
        self.check(GROUP, 2, 0, (1,), "f(f(a, x0), x1); f(x0, x1); f(a, f(x0, x1))")
        self.check(GROUP, 2, 1, (1,), "f(f(h(x0), x0), x1); f(a, x1); f(h(x0), f(x0, x1))")
        rules = rules_of("k(x3, g(x3), b) = x3", "g(h(x0)) = x0")
        self.check(rules, 0, 1, (2,), "k(h(x0), g(h(x0)), b); k(h(x0), x0, b); h(x0)")

    def test_at_the_root(self):
        self.check(GROUP, 2, 0, (), None)
        rules = rules_of("f(x0, a) = x0", "f(b, x0) = g(x0)")
        self.check(rules, 1, 0, (), "f(b, a); b; g(a)")
        self.check(rules_of("a = b", "a = a"), 1, 0, (), "a; b; a")

    def test_what_is_not_counted(self):
        rules = rules_of("f(x0, a) = x0", "f(b, x0) = g(x0)", "f(b, x0) = a")
        for outer, inner in [(0, 0), (1, 1), (2, 2), (0, 1), (0, 2), (1, 2)]:
            self.check(rules, outer, inner, (), None)
        for outer, inner in [(1, 0), (2, 0), (2, 1)]:
            self.assertIsNotNone(overlap_at(rules, outer, inner, ()))

    def test_a_rule_with_itself(self):
        self.check(GROUP, 2, 2, (1,), "f(f(f(x0, x1), x2), x3); f(f(x0, f(x1, x2)), x3); f(f(x0, x1), f(x2, x3))")
        self.check(rules_of("g(g(x5)) = h(x5)"), 0, 0, (1,), "g(g(g(x0))); g(h(x0)); h(g(x0))")
        self.check(rules_of("g(h(x5)) = h(x5)"), 0, 0, (1,), None)

    def test_no_overlap(self):
        for outer, inner, position in [(0, 1, (1,)), (0, 2, (1,)), (1, 0, (1,)), (1, 2, (1,)), (0, 0, (1,)),
                                       (2, 1, ()), (1, 0, ())]:
            self.check(GROUP, outer, inner, position, None)
        self.check(rules_of("f(x0, x0) = x0", "f(x0, g(x0)) = x0"), 1, 0, (), None)

    def test_positions_that_the_left_side_lacks(self):
        for position in [(0,), (3,), (-1,), (1, 0), (1, 3), (1, 1, 1), (2, 1), (1, 1, 1, 1), (99,)]:
            self.check(GROUP, 2, 0, position, None)

    def test_positions_of_variables(self):
        for outer, position in [(0, (2,)), (1, (2,)), (1, (1, 1)), (2, (2,)), (2, (1, 1)), (2, (1, 2))]:
            for inner in range(3):
                self.check(GROUP, outer, inner, position, None)

    def test_variables_are_numbered_by_the_peak(self):
        rules = rules_of("k(x7, f(x2, x5), x2) = f(x5, x7)", "f(x9, g(x1)) = f(x1, x9)")
        self.check(rules, 0, 1, (2,), "k(x0, f(x1, g(x2)), x1); k(x0, f(x2, x1), x1); f(g(x2), x0)")
        _, _, _, steps = overlap_at(rules, 0, 1, (2,))
        self.assertEqual(steps[0][3], {9: 1, 1: 2})
        self.assertEqual(steps[1][3], {7: 0, 2: 1, 5: t("g(x2)")})

    def test_many_variables(self):
        row = 0
        for name in range(1, 10):
            row = ("f", row, name)
        rules = [(("k", ("g", 0), row, A), 0), (("g", row), 9)]
        peak, left, right, steps = overlap_at(rules, 0, 1, (1,))
        self.assertEqual(variables(peak), list(range(19)))
        self.assertEqual(peak[2], plain_substitute(row, {0: row, **{name: name + 9 for name in range(1, 10)}}))
        self.assertEqual((left, right), (("k", 9, peak[2], A), row))
        self.assertEqual(visited(rules, [], left, steps), [left, peak, right])

    def test_variables_above_nine(self):
        good, bad, worse = eq("g(x0) = x0"), (("g", 10), A), (("f", 0, 19), A)
        rules = [good, bad, worse, (("h", 0), A)]
        for outer, inner in [(0, 1), (1, 0), (1, 1), (1, 2), (3, 1), (2, 3), (0, 2)]:
            for position in [(), (1,), (5,), (1, 1, 1)]:
                for error in (TooLarge, HallError, ValueError):
                    with self.assertRaises(error):
                        overlap_at(rules, outer, inner, position)
        for outer, inner in [(0, 3), (3, 0), (0, 0)]:
            self.assertIsNone(overlap_at(rules, outer, inner, ()))
        self.assertIsNone(overlap_at([good, (("h", 9), 9)], 1, 0, ()))

    def too_large(self, rules, outer, inner, position, is_too_large):
        if not is_too_large:
            found = overlap_at(rules, outer, inner, position)
            for term in found[:3]:
                self.assertLessEqual(size(term), 400)
                self.assertLessEqual(depth(term), 30)
            self.assertEqual(found[:3], plain_overlap(rules, outer, inner, position))
            return
        for call in (lambda: overlap_at(rules, outer, inner, position), lambda: overlaps(rules)):
            for error in (TooLarge, HallError, ValueError):
                with self.assertRaises(error):
                    call()

    def test_sizes(self):
        for count, is_too_large in [(198, False), (199, True)]:
            value = sized(200)
            # The peak alone, then the left term alone, then the right term alone.
            self.too_large([(("f", ("g", 0), sized(count)), A), (("g", value), A)], 0, 1, (1,), is_too_large)
            self.too_large([(("h", ("g", 0)), A), (("g", value), ("f", sized(count), value))], 0, 1, (1,),
                           is_too_large)
            self.too_large([(("h", ("g", 0)), ("f", ("g", 0), sized(count))), (("g", value), A)], 0, 1, (1,), is_too_large)
        for count, is_too_large in [(130, False), (131, True)]:
            # Here the variable of the outer rule gets a value of size count + 2.
            rules = [(("h", ("f", ("f", 0, 0), 0)), A), (("f", 0, ("f", sized(count), B)), A)]
            self.too_large(rules, 0, 1, (1,), is_too_large)

    def test_depths(self):
        for height, is_too_large in [(27, False), (28, True)]:
            value = tower("g", height, A)
            self.too_large([(("h", ("h", 0)), A), (("h", value), A)], 0, 1, (1,), is_too_large)
            self.too_large([(("g", ("h", 0)), A), (("h", A), ("h", value))], 0, 1, (1,), is_too_large)
            self.too_large([(("g", ("h", 0)), ("g", ("g", 0))), (("h", value), A)], 0, 1, (1,), is_too_large)

    def test_huge_peaks(self):
        rules = [(("f", ("g", 0), bush("f", 7, 0)), A), (("g", sized(390)), A)]
        with self.assertRaises(TooLarge):
            overlap_at(rules, 0, 1, (1,))
        # Each variable of one rule stands for a term with eight times the next one of the other.
        left, right = A, A
        for name in range(8, -1, -1):
            left, right = ("f", bush("f", 3, name + 1), left), ("f", name, right)
        for name in range(8, -1, -1):
            left, right = ("f", name, left), ("f", bush("f", 3, name), right)
        with self.assertRaises(TooLarge):
            overlap_at([(("g", left), A), (right, A)], 0, 1, (1,))

    def test_none_comes_before_too_large_terms(self):
        large = [(("f", ("g", 0), sized(390)), A), (("g", sized(390)), A), (("h", A), B)]
        for outer, inner, position in [(0, 1, (1, 1)), (0, 1, (3,)), (0, 1, ()), (0, 0, ()), (0, 2, (1,))]:
            self.assertIsNone(overlap_at(large, outer, inner, position))
        with self.assertRaises(TooLarge):
            overlap_at(large, 0, 1, (1,))

    def test_against_plain_overlaps(self):
        rng = seeded(101)
        count = 0
        for _ in range(120):
            rules = random_rules(rng, 3)
            before = copy.deepcopy(rules)
            for outer in range(3):
                for inner in range(3):
                    for position in all_positions(rules[outer][0]):
                        wanted = plain_overlap(rules, outer, inner, position)
                        count += wanted is not None
                        self.check(rules, outer, inner, position, wanted)
                        if wanted is not None:
                            steps = overlap_at(rules, outer, inner, position)[3]
                            self.assertEqual(sorted(steps[0][3]), sorted(variables(rules[inner][0])))
                            self.assertEqual(sorted(steps[1][3]), sorted(variables(rules[outer][0])))
            self.assertEqual(rules, before)
        self.assertGreater(count, 200)


class OverlapsTest(unittest.TestCase):
    def test_the_whole_list(self):
        rules = rules_of("f(g(x0), x0) = a", "g(a) = b", "f(x0, a) = g(x0)", "f(f(x0, x1), x2) = f(x0, f(x1, x2))")
        found = [(*row[:3], *(row[3:6])) for row in overlaps(rules)]
        wanted = []
        for outer, inner, position, texts in [
                (0, 1, (1,), "f(g(a), a); f(b, a); a"), (2, 0, (), "f(g(a), a); a; g(g(a))"),
                (3, 0, (1,), "f(f(g(x0), x0), x1); f(a, x1); f(g(x0), f(x0, x1))"),
                (3, 2, (), "f(f(x0, x1), a); g(f(x0, x1)); f(x0, f(x1, a))"),
                (3, 2, (1,), "f(f(x0, a), x1); f(g(x0), x1); f(x0, f(a, x1))"),
                (3, 3, (1,), "f(f(f(x0, x1), x2), x3); f(f(x0, f(x1, x2)), x3); f(f(x0, x1), f(x2, x3))")]:
            wanted.append((outer, inner, position, *(t(text) for text in texts.split("; "))))
        self.assertEqual(found, wanted)

    def test_no_overlaps(self):
        for rules in [[], rules_of("a = b"), rules_of("g(x0) = x0", "h(x0) = x0"), rules_of("f(x0, x1) = f(x1, x0)")]:
            self.assertEqual(overlaps(rules), [])

    def test_each_as_overlap_at(self):
        rng = seeded(102)
        count = 0
        for _ in range(40):
            rules = random_rules(rng, 4)
            before = copy.deepcopy(rules)
            wanted = []
            for outer in range(4):
                for inner in range(4):
                    for position in all_positions(rules[outer][0]):
                        one = overlap_at(rules, outer, inner, position)
                        if one is not None:
                            wanted.append((outer, inner, position, *one))
            self.assertEqual(overlaps(rules), wanted)
            self.assertEqual(rules, before)
            count += len(wanted)
        self.assertGreater(count, 100)

    def test_errors_in_their_order(self):
        good, bare, high, large = eq("g(a) = a"), (0, A), (("g", 10), A), (("f", ("g", 0), bush("f", 7, 0)), A)
        wide = (("g", sized(390)), A)
        for rules, index in [([bare], 0), ([good, high, (A, 3)], 2), ([large, wide, bare], 2), ([high, bare, bare], 1)]:
            for error in (InvalidRule, HallError, ValueError):
                with self.assertRaises(error) as caught:
                    overlaps(rules)
                self.assertEqual(caught.exception.index, index)
        for rules in [[high], [good, high], [large, wide], [large, good, wide], [good, (("h", 0), A), (("h", 11), A)]]:
            for error in (TooLarge, HallError, ValueError):
                with self.assertRaises(error):
                    overlaps(rules)
        self.assertEqual(overlaps([large, (("g", A), A)])[0][:3], (0, 1, (1,)))

    def test_results_are_new(self):
        rules = rules_of("g(g(x0)) = x0")
        found = overlaps(rules)
        found[0][6][0][3].clear()
        found.clear()
        self.assertEqual(overlaps(rules)[0][6][0][3], {0: 0})
        self.assertEqual(rules, rules_of("g(g(x0)) = x0"))

    def test_many_rules(self):
        rules = [(("f", tower("g", at, 0), tower("h", at, 1)), A) for at in range(20)] * 2
        self.assertEqual(len(overlaps(rules)), 40 * 39 // 2)


if __name__ == "__main__":
    unittest.main()
