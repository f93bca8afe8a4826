import unittest

from helpers import A, B, all_positions, bush, comb, plain_substitute, seeded, signature, t, tower
from joinedends.commuting import are_alike, are_combined_alike, combined_form, commutative_matches, sorted_form
from joinedends.errors import HallError, TooLarge
from joinedends.terms import compare_terms, depth, replace, size, subterm, variables

BOTH = signature("a b c g h f m k", "f m")
ONE = signature("a b c g h f m k", "m")


def exchanged(term, names):
    """All terms that exchanging arguments of these operations makes of the term."""
    if isinstance(term, int):
        return {term}
    rows = {(term[0],)}
    for part in term[1:]:
        rows = {row + (other,) for row in rows for other in exchanged(part, names)}
    if term[0] in names:
        rows |= {(row[0], row[2], row[1]) for row in rows}
    return rows


def small_term(rng, depth_limit, variable_count=3):
    if depth_limit == 1 or rng.random() < 0.2:
        return rng.choice([A, B, rng.randrange(variable_count)])
    name, arity = rng.choice([("g", 1), ("f", 2), ("m", 2), ("m", 2)])
    return (name,) + tuple(small_term(rng, depth_limit - 1, variable_count) for _ in range(arity))


class SortedFormTest(unittest.TestCase):
    def test_sorted_forms(self):
        for text, wanted in [("x3", "x3"), ("a", "a"), ("m(b, a)", "m(a, b)"), ("m(a, b)", "m(a, b)"),
                             ("m(a, x5)", "m(x5, a)"), ("m(x5, x4)", "m(x4, x5)"), ("m(g(a), b)", "m(b, g(a))"),
                             ("m(x1, m(b, a))", "m(x1, m(a, b))"), ("m(m(b, a), x1)", "m(x1, m(a, b))"),
                             ("g(f(m(b, a), a))", "g(f(m(a, b), a))"), ("k(m(b, a), a, m(x1, x0))", "k(m(a, b), a, m(x0, x1))"),
                             ("m(m(x2, x0), m(x1, x0))", "m(m(x0, x1), m(x0, x2))")]:
            self.assertEqual(sorted_form(ONE, t(text)), t(wanted))

    def test_other_operations_keep_their_order(self):
        for text in ["f(b, a)", "f(g(a), a)", "k(b, x3, a)", "f(f(x2, x1), x0)"]:
            self.assertEqual(sorted_form(ONE, t(text)), t(text))
        self.assertEqual(sorted_form(BOTH, t("f(f(x2, x1), x0)")), t("f(x0, f(x1, x2))"))

    def test_the_sorted_arguments_are_compared(self):
        # As they stand, the first argument comes before the second one.
        self.assertEqual(sorted_form(ONE, t("m(m(a, x9), m(b, x0))")), t("m(m(x0, b), m(x9, a))"))

    def test_sorting_once_more_changes_nothing(self):
        rng = seeded(41)
        for _ in range(200):
            term = small_term(rng, 4)
            once = sorted_form(BOTH, term)
            self.assertEqual(sorted_form(BOTH, once), once)
            self.assertEqual(size(once), size(term))

    def test_deep_and_large_terms(self):
        self.assertEqual(sorted_form(ONE, comb("m", 29, A)), comb("m", 29, A))
        left = A
        for _ in range(29):
            left = ("m", left, B)
        self.assertEqual(size(sorted_form(ONE, left)), 59)
        self.assertEqual(sorted_form(ONE, left)[1], B)


class AlikeTest(unittest.TestCase):
    def both(self, left, right, wanted):
        self.assertIs(are_alike(ONE, left, right), wanted)
        self.assertIs(are_alike(ONE, right, left), wanted)

    def test_alike(self):
        for left, right in [("a", "a"), ("x0", "x0"), ("m(a, b)", "m(b, a)"), ("m(x0, x1)", "m(x1, x0)"),
                            ("f(a, m(a, b))", "f(a, m(b, a))"), ("m(m(a, b), g(m(x1, a)))", "m(g(m(a, x1)), m(b, a))")]:
            self.both(t(left), t(right), True)

    def test_not_alike(self):
        for left, right in [("a", "b"), ("x0", "x1"), ("f(a, b)", "f(b, a)"), ("m(a, a)", "m(a, b)"),
                            ("m(m(a, b), a)", "m(m(a, a), b)"), ("m(a, f(a, b))", "m(f(b, a), a)"),
                            ("m(m(a, b), x0)", "m(a, m(b, x0))"), ("m(a, b)", "f(a, b)")]:
            self.both(t(left), t(right), False)

    def test_against_all_exchanges(self):
        rng = seeded(42)
        for _ in range(150):
            term = small_term(rng, 4)
            if size(term) > 12:
                continue
            rows = exchanged(term, ["m"])
            for other in sorted(rows, key=repr)[:5]:
                self.both(term, other, True)
                changed = replace(other, rng.choice(all_positions(other)), small_term(rng, 2))
                self.both(term, changed, changed in rows)

    def test_one_changed_subterm(self):
        rng = seeded(43)
        for _ in range(50):
            term = ("m", small_term(rng, 4), small_term(rng, 3))
            other = sorted_form(ONE, term)
            for position in all_positions(other):
                self.both(term, replace(other, position, ("h", subterm(other, position))), False)


class CommutativeMatchesTest(unittest.TestCase):
    def check(self, pattern, term, wanted, operations=ONE):
        rows = [{key: t(value) for key, value in row.items()} for row in wanted]
        self.assertEqual(commutative_matches(operations, t(pattern), t(term)), rows)

    def test_no_match(self):
        for pattern, term in [("a", "b"), ("g(x0)", "a"), ("m(x0, x0)", "m(a, b)"), ("f(a, x0)", "f(x0, a)"),
                              ("m(a, x0)", "m(b, c)"), ("m(x0, x1)", "x3"), ("m(x0, x1)", "f(a, b)"),
                              ("m(g(x0), x0)", "m(g(a), g(b))")]:
            self.check(pattern, term, [])

    def test_one_match(self):
        self.check("a", "a", [{}])
        self.check("m(a, b)", "m(b, a)", [{}])
        self.check("x4", "m(b, a)", [{4: "m(a, b)"}])
        self.check("m(x0, a)", "m(a, b)", [{0: "b"}])
        self.check("f(x0, m(x1, b))", "f(m(b, a), m(b, g(m(b, a))))", [{0: "m(a, b)", 1: "g(m(a, b))"}])
        self.check("f(x0, x0)", "f(m(a, b), m(b, a))", [{0: "m(a, b)"}])
        self.check("m(g(x0), x0)", "m(m(a, b), g(m(b, a)))", [{0: "m(a, b)"}])

    def test_several_matches_in_their_order(self):
        self.check("m(x0, x1)", "m(b, a)", [{0: "a", 1: "b"}, {0: "b", 1: "a"}])
        self.check("m(x1, x0)", "m(b, a)", [{0: "a", 1: "b"}, {0: "b", 1: "a"}])
        self.check("m(x7, x3)", "m(g(a), x9)", [{3: "x9", 7: "g(a)"}, {3: "g(a)", 7: "x9"}])
        self.check("m(x0, m(x1, x2))", "m(m(b, c), m(g(a), a))",
                   [{0: "m(b, c)", 1: "a", 2: "g(a)"}, {0: "m(b, c)", 1: "g(a)", 2: "a"},
                    {0: "m(a, g(a))", 1: "b", 2: "c"}, {0: "m(a, g(a))", 1: "c", 2: "b"}])

    def test_no_duplicates(self):
        self.check("m(x0, x1)", "m(a, a)", [{0: "a", 1: "a"}])
        self.check("m(m(x0, a), m(a, x0))", "m(m(a, b), m(b, a))", [{0: "b"}])
        self.check("m(x0, x1)", "m(m(a, b), m(b, a))", [{0: "m(a, b)", 1: "m(a, b)"}])
        self.check("m(a, a)", "m(a, a)", [{}])

    def test_variables_of_the_term_are_constants(self):
        self.check("m(x0, x1)", "m(x1, x0)", [{0: "x0", 1: "x1"}, {0: "x1", 1: "x0"}])
        self.check("m(x0, g(x0))", "m(x0, g(x1))", [])

    def test_against_all_exchanges(self):
        rng = seeded(44)
        several = 0
        for _ in range(400):
            pattern = small_term(rng, 3)
            if rng.random() < 0.7:
                values = {key: small_term(rng, 2) for key in range(3)}
                term = rng.choice(sorted(exchanged(plain_substitute(pattern, values), ["f", "m"]), key=repr))
            else:
                term = small_term(rng, 3)
            found = commutative_matches(BOTH, pattern, term)
            several += len(found) > 1
            self.assertEqual(found, self.plain_matches(pattern, term))
        self.assertGreater(several, 20)

    def plain_matches(self, pattern, term):
        goal = sorted_form(BOTH, term)
        rows = [{}]
        for name in sorted(variables(pattern)):
            choices = {sorted_form(BOTH, subterm(term, position)) for position in all_positions(term)}
            rows = [{**row, name: value} for row in rows for value in choices]
        rows = [row for row in rows if sorted_form(BOTH, plain_substitute(pattern, row)) == goal]
        for at in range(1, len(rows)):
            while at > 0 and self.comes_before(rows[at], rows[at - 1]):
                rows[at - 1:at + 1] = rows[at - 1:at + 1][::-1]
                at -= 1
        return rows

    def comes_before(self, first, second):
        for name in sorted(first):
            if first[name] != second[name]:
                return compare_terms(first[name], second[name]) < 0
        return False

    def test_eight_and_nine_commutative_operations(self):
        eight = t("x0")
        for _ in range(8):
            eight = ("m", eight, A)
        goal = plain_substitute(eight, {0: B})
        self.assertEqual(commutative_matches(ONE, eight, goal), [{0: B}])
        self.assertEqual(commutative_matches(ONE, eight, A), [])
        self.assertEqual(commutative_matches(ONE, ("f", eight, ("f", A, A)), A), [])
        nine = ("m", eight, A)
        for pattern, term in [(nine, plain_substitute(nine, {0: B})), (nine, A), (bush("m", 4, A), A),
                              (("f", eight, ("m", A, A)), 0), (tower("g", 5, nine), B)]:
            for error in (TooLarge, HallError, ValueError):
                with self.assertRaises(error):
                    commutative_matches(ONE, pattern, term)

    def test_only_commutative_operations_are_counted(self):
        term = bush("f", 4, 0)
        self.assertEqual(commutative_matches(ONE, term, bush("f", 4, A)), [{0: A}])
        with self.assertRaises(TooLarge):
            commutative_matches(BOTH, term, bush("f", 4, A))

    def test_many_matches(self):
        pattern = t("m(m(x0, x1), m(x2, x3))")
        found = commutative_matches(ONE, pattern, t("m(m(a, b), m(c, x0))"))
        self.assertEqual(len(found), 8)
        self.assertEqual(found[0], {0: 0, 1: ("c",), 2: A, 3: B})
        found[0].clear()
        self.assertEqual(len(commutative_matches(ONE, pattern, t("m(m(a, b), m(c, x0))"))[0]), 4)


class CombinedFormTest(unittest.TestCase):
    def test_no_operation(self):
        for text in ["x0", "a", "m(b, a)", "f(f(b, a), x0)"]:
            self.assertEqual(combined_form([], t(text)), t(text))

    def test_one_operation(self):
        for text, wanted in [("x0", "x0"), ("a", "a"), ("f(b, a)", "f(a, b)"), ("f(f(c, b), a)", "f(a, f(b, c))"),
                             ("f(c, f(b, a))", "f(a, f(b, c))"), ("f(f(x1, c), f(b, x0))", "f(x0, f(x1, f(b, c)))"),
                             ("f(a, f(a, a))", "f(a, f(a, a))"), ("f(g(f(b, a)), x1)", "f(x1, g(f(a, b)))"),
                             ("m(f(b, a), b)", "m(f(a, b), b)"), ("f(m(f(b, a), a), b)", "f(b, m(f(a, b), a))"),
                             ("f(g(a), f(g(x3), b))", "f(b, f(g(x3), g(a)))")]:
            self.assertEqual(combined_form(["f"], t(text)), t(wanted))

    def test_two_operations(self):
        for text, wanted in [("m(f(b, a), a)", "m(a, f(a, b))"), ("f(f(m(c, m(b, a)), c), m(b, a))",
                                                                 "f(c, f(m(a, b), m(a, m(b, c))))"),
                             ("k(m(b, a), f(c, b), x0)", "k(m(a, b), f(b, c), x0)")]:
            self.assertEqual(combined_form(["f", "m"], t(text)), t(wanted))
            self.assertEqual(combined_form(["m", "f", "m"], t(text)), t(wanted))

    def test_the_combined_arguments_are_sorted(self):
        # As they stand, the first argument comes before the second one.
        self.assertEqual(combined_form(["f"], t("f(g(f(a, x9)), g(f(b, x0)))")), t("f(g(f(x0, b)), g(f(x9, a)))"))

    def test_nothing_changes_the_second_time(self):
        rng = seeded(45)
        for _ in range(200):
            term = small_term(rng, 4)
            for operations in ([], ["f"], ["m"], ["m", "f"]):
                once = combined_form(operations, term)
                self.assertEqual(combined_form(operations, once), once)

    def test_depth(self):
        leaves = bush("f", 4, A)
        self.assertEqual(depth(leaves), 5)
        self.assertEqual(depth(combined_form(["f"], leaves)), 16)
        below = tower("g", 13, A)
        self.assertEqual(combined_form(["f"], ("f", leaves, below)), self.nested([A] * 16 + [below]))
        self.assertEqual(depth(self.nested([A] * 16 + [below])), 30)
        self.assertEqual(depth(("f", leaves, below)), 15)
        for term in [("f", leaves, tower("g", 14, A)), bush("f", 5, A), ("g", ("f", leaves, tower("g", 13, A)))]:
            for error in (TooLarge, HallError, ValueError):
                with self.assertRaises(error):
                    combined_form(["f"], term)
            self.assertEqual(combined_form(["m"], term), term)

    def nested(self, parts):
        result = parts[-1]
        for part in parts[-2::-1]:
            result = ("f", part, result)
        return result

    def test_a_term_may_get_less_deep(self):
        term = ("f", bush("m", 5, A), ("f", bush("m", 5, A), tower("g", 27, A)))
        self.assertEqual(depth(term), 30)
        self.assertEqual(depth(combined_form(["f"], term)), 29)

    def test_the_list_is_unchanged(self):
        operations = ["m", "f"]
        combined_form(operations, t("f(m(b, a), a)"))
        are_combined_alike(operations, A, B)
        self.assertEqual(operations, ["m", "f"])


class CombinedAlikeTest(unittest.TestCase):
    def test_alike(self):
        for operations, left, right, wanted in [
                ([], "f(a, b)", "f(b, a)", False), (["f"], "f(a, b)", "f(b, a)", True),
                (["f"], "f(f(a, b), c)", "f(c, f(b, a))", True), (["f"], "f(f(a, b), b)", "f(f(a, b), a)", False),
                (["f"], "m(a, b)", "m(b, a)", False), (["f"], "f(a, m(a, b))", "f(m(a, b), a)", True),
                (["f"], "f(a, m(a, b))", "f(m(b, a), a)", False), (["m", "f"], "f(a, m(a, b))", "f(m(b, a), a)", True),
                (["m", "f"], "f(a, m(a, b))", "m(a, f(a, b))", False), (["f"], "f(a, a)", "f(a, f(a, a))", False)]:
            self.assertIs(are_combined_alike(operations, t(left), t(right)), wanted)
            self.assertIs(are_combined_alike(operations, t(right), t(left)), wanted)

    def test_single_moves_do_not_matter(self):
        rng = seeded(46)
        for _ in range(200):
            start = term = small_term(rng, 4)
            for _ in range(6):
                term = self.moved_once(rng, term)
            self.assertIs(are_combined_alike(["m"], start, term), True)
            self.assertIs(are_combined_alike(["m", "f"], start, ("g", term)), False)

    def moved_once(self, rng, term):
        position = rng.choice(all_positions(term))
        part = subterm(term, position)
        if isinstance(part, int) or part[0] != "m":
            return term
        _, one, other = part
        new = ("m", other, one)
        if rng.random() < 0.5 and isinstance(one, tuple) and one[0] == "m":
            new = ("m", one[1], ("m", one[2], other))
        return replace(term, position, new)

    def test_too_large(self):
        large, small = bush("f", 5, A), t("f(a, b)")
        for left, right in [(large, small), (small, large), (large, large)]:
            with self.assertRaises(TooLarge):
                are_combined_alike(["f"], left, right)
            self.assertIs(are_combined_alike(["m"], left, right), left == right)


if __name__ == "__main__":
    unittest.main()
