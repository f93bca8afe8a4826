import copy
import unittest

from helpers import A, B, all_positions, bush, eq, plain_substitute, random_term, rules_of, seeded, sized, t, tower
from joinedends.chains import apply_step, visited
from joinedends.errors import HallError, InvalidRule, StepLimit, TooLarge
from joinedends.matching import match_term
from joinedends.rewriting import first_redex, is_normal, join, normal_form, redexes
from joinedends.terms import depth, replace, size, subterm

GROUP = rules_of("f(a, x0) = x0", "f(h(x0), x0) = a", "f(f(x0, x1), x2) = f(x0, f(x1, x2))")
SWAP = rules_of("g(h(x0)) = h(g(x0))")


def after(positions):
    """The positions in the order in which an application comes after all positions inside it."""
    rows = []
    for position in positions:
        # An end mark that is greater than all entries puts a position behind those inside it.
        rows.append((position + (99,), position))
    return [position for _, position in sorted(rows)]


def plain_redexes(rules, term, positions):
    rows = []
    for position in positions:
        for number, (left, _) in enumerate(rules):
            values = match_term(left, subterm(term, position))
            if values is not None:
                rows.append((("given", number), True, position, values))
    return rows


def plain_normal_form(rules, term, strategy, limit):
    """The normal form and the steps, or the class of the error that is raised."""
    steps = []
    while True:
        places = all_positions(term)
        rows = plain_redexes(rules, term, places if strategy == "outer" else after(places))
        if not rows:
            return term, steps
        if len(steps) == limit:
            return StepLimit
        steps.append(rows[0])
        (_, number), _, position, values = rows[0]
        term = replace(term, position, plain_substitute(rules[number][1], values))
        if size(term) > 400 or depth(term) > 30:
            return TooLarge


def random_rules(rng, count=4):
    rules = []
    while len(rules) < count:
        left = random_term(rng, rng.randrange(1, 4), 2)
        right = random_term(rng, rng.randrange(1, 4), 2)
        names = {part for part in map(lambda place: subterm(left, place), all_positions(left)) if isinstance(part, int)}
        if isinstance(left, tuple) and all(not isinstance(subterm(right, place), int) or subterm(right, place) in names
                                           for place in all_positions(right)):
            rules.append((left, right))
    return rules


def sorting(p, q):
    """A term whose normal form for SWAP is p * q steps away."""
    return tower("g", p, tower("h", q, A))


class RedexesTest(unittest.TestCase):
    def test_no_redex(self):
        self.assertEqual(redexes(GROUP, t("f(x0, f(x1, a))")), [])
        self.assertEqual(redexes([], t("f(a, a)")), [])
        self.assertEqual(redexes(GROUP, 0), [])

    def test_by_positions_and_then_by_rules(self):
        rules = rules_of("g(x0) = a", "f(x0, x1) = x1", "g(a) = b", "f(x0, x0) = x0", "a = b")
        self.assertEqual(redexes(rules, t("f(g(a), g(a))")), [
            (("given", 1), True, (), {0: t("g(a)"), 1: t("g(a)")}), (("given", 3), True, (), {0: t("g(a)")}),
            (("given", 0), True, (1,), {0: A}), (("given", 2), True, (1,), {}), (("given", 4), True, (1, 1), {}),
            (("given", 0), True, (2,), {0: A}), (("given", 2), True, (2,), {}), (("given", 4), True, (2, 1), {})])
        self.assertEqual(redexes(rules, t("k(x0, g(x1), f(a, b))")), [
            (("given", 0), True, (2,), {0: 1}), (("given", 1), True, (3,), {0: A, 1: B}),
            (("given", 4), True, (3, 1), {})])

    def test_equal_rules(self):
        rules = rules_of("a = b", "a = a", "a = b")
        self.assertEqual(redexes(rules, A), [(("given", number), True, (), {}) for number in range(3)])

    def test_rules_with_greater_variables(self):
        self.assertEqual(redexes([(("g", 15), A)], ("g", 15)), [(("given", 0), True, (), {15: 15})])

    def test_against_plain_redexes(self):
        rng = seeded(91)
        several = 0
        for _ in range(200):
            rules, term = random_rules(rng), random_term(rng, 4)
            before = copy.deepcopy(rules)
            wanted = plain_redexes(rules, term, all_positions(term))
            found = redexes(rules, term)
            self.assertEqual(found, wanted)
            self.assertEqual(rules, before)
            several += len(found) > 2
            for step in found:
                apply_step(rules, [], term, step)
            self.assertIs(is_normal(rules, term), wanted == [])
            for strategy, places in (("outer", all_positions(term)), ("inner", after(all_positions(term)))):
                rows = plain_redexes(rules, term, places)
                self.assertEqual(first_redex(rules, term, strategy), rows[0] if rows else None)
        self.assertGreater(several, 20)

    def test_results_are_new(self):
        rules = rules_of("g(x0) = x0")
        found = redexes(rules, t("f(g(a), g(a))"))
        found[0][3].clear()
        self.assertEqual(found[1][3], {0: A})
        self.assertEqual(redexes(rules, t("g(a)")), [(("given", 0), True, (), {0: A})])


class FirstRedexTest(unittest.TestCase):
    def test_outer_and_inner(self):
        rules = rules_of("g(x0) = a", "f(x0, x1) = x1", "b = a")
        term = t("f(g(h(b)), g(a))")
        self.assertEqual(first_redex(rules, term, "outer"), (("given", 1), True, (), {0: t("g(h(b))"), 1: t("g(a)")}))
        self.assertEqual(first_redex(rules, term, "inner"), (("given", 2), True, (1, 1, 1), {}))
        term = t("h(k(a, g(x0), f(b, b)))")
        self.assertEqual(first_redex(rules, term, "outer"), (("given", 0), True, (1, 2), {0: 0}))
        self.assertEqual(first_redex(rules, term, "inner"), (("given", 0), True, (1, 2), {0: 0}))
        term = t("f(a, f(b, x0))")
        self.assertEqual(first_redex(rules, term, "outer")[2], ())
        self.assertEqual(first_redex(rules, term, "inner")[2], (2, 1))

    def test_the_least_rule(self):
        rules = rules_of("h(x0) = a", "g(g(x0)) = x0", "g(x0) = x0", "g(a) = b")
        for strategy in ("outer", "inner"):
            self.assertEqual(first_redex(rules, t("g(a)"), strategy)[0], ("given", 2))
            self.assertEqual(first_redex(rules[::-1], t("g(a)"), strategy)[0], ("given", 0))
        self.assertEqual(first_redex(rules, t("g(g(a))"), "outer")[0], ("given", 1))

    def test_none(self):
        for strategy in ("outer", "inner"):
            self.assertIsNone(first_redex(GROUP, t("f(x0, a)"), strategy))
            self.assertIsNone(first_redex([], A, strategy))


class IsNormalTest(unittest.TestCase):
    def test_is_normal(self):
        for text, wanted in [("x0", True), ("a", True), ("f(x0, a)", True), ("f(a, x0)", False), ("g(f(a, b))", False),
                             ("k(a, b, f(h(x0), x1))", True), ("k(a, b, f(h(x0), x0))", False)]:
            self.assertIs(is_normal(GROUP, t(text)), wanted)
        self.assertIs(is_normal([], t("f(a, a)")), True)


class NormalFormTest(unittest.TestCase):
    def test_a_group(self):
        start, end = t("f(f(h(x0), x0), f(a, b))"), t("f(h(x0), f(x0, b))")
        self.assertEqual(normal_form(GROUP, start), (end, [
            (("given", 2), True, (), {0: t("h(x0)"), 1: 0, 2: t("f(a, b)")}), (("given", 0), True, (2, 2), {0: B})]))
        self.assertEqual(normal_form(GROUP, start, strategy="inner"), (B, [
            (("given", 1), True, (1,), {0: 0}), (("given", 0), True, (2,), {0: B}), (("given", 0), True, (), {0: B})]))

    def test_the_two_strategies(self):
        rules = rules_of("f(x0, x1) = x0", "a = b")
        for call in (normal_form(rules, t("f(a, a)")), normal_form(rules, t("f(a, a)"), strategy="outer")):
            self.assertEqual(call, (B, [(("given", 0), True, (), {0: A, 1: A}), (("given", 1), True, (), {})]))
        self.assertEqual(normal_form(rules, t("f(a, a)"), strategy="inner"), (B, [
            (("given", 1), True, (1,), {}), (("given", 1), True, (2,), {}), (("given", 0), True, (), {0: B, 1: B})]))

    def test_no_step(self):
        for limit in (0, 1, 2000):
            for strategy in ("outer", "inner"):
                self.assertEqual(normal_form(GROUP, t("f(x0, a)"), strategy=strategy, limit=limit), (t("f(x0, a)"), []))
        self.assertEqual(normal_form([], t("f(a, a)")), (t("f(a, a)"), []))
        self.assertEqual(normal_form(GROUP, 3), (3, []))

    def test_limits(self):
        for p, q in [(1, 1), (2, 3), (5, 4)]:
            for strategy in ("outer", "inner"):
                term, steps = normal_form(SWAP, sorting(p, q), strategy=strategy, limit=p * q)
                self.assertEqual(term, tower("h", q, tower("g", p, A)))
                self.assertEqual(len(steps), p * q)
                for limit in (0, p * q - 1):
                    for error in (StepLimit, HallError, ValueError):
                        with self.assertRaises(error):
                            normal_form(SWAP, sorting(p, q), strategy=strategy, limit=limit)

    def test_the_limit_that_is_not_passed(self):
        six = [sorting(13, 14)] * 5 + [sorting(9, 10)]
        term = ("k", ("f", *six[:2]), ("f", *six[2:4]), ("f", *six[4:]))
        self.assertEqual(len(normal_form(SWAP, term)[1]), 1000)
        self.assertEqual(join(SWAP, term, term)[0], normal_form(SWAP, term)[0])
        more = ("k", term[1], term[2], ("f", six[4], sorting(7, 13)))
        for call in (lambda: normal_form(SWAP, more), lambda: join(SWAP, more, A), lambda: join(SWAP, A, more)):
            with self.assertRaises(StepLimit):
                call()
        self.assertEqual(len(normal_form(SWAP, more, limit=1001)[1]), 1001)

    def test_endless_rewriting(self):
        for strategy in ("outer", "inner"):
            with self.assertRaises(StepLimit):
                normal_form(rules_of("f(x0, x1) = f(x1, x0)"), t("f(a, b)"), strategy=strategy, limit=2000)
            with self.assertRaises(StepLimit):
                normal_form(rules_of("a = a"), A, strategy=strategy)

    def test_too_deep(self):
        rules = rules_of("a = g(a)")
        for strategy in ("outer", "inner"):
            for limit in range(30):
                with self.assertRaises(StepLimit):
                    normal_form(rules, A, strategy=strategy, limit=limit)
            for limit in (30, 31, 2000):
                for error in (TooLarge, HallError, ValueError):
                    with self.assertRaises(error):
                        normal_form(rules, A, strategy=strategy, limit=limit)
        self.assertEqual(normal_form(rules_of("b = g(a)"), tower("g", 28, B))[0], tower("g", 29, A))
        with self.assertRaises(TooLarge):
            normal_form(rules_of("b = g(a)"), tower("g", 29, B))

    def test_too_large(self):
        rules = rules_of("h(x0) = k(x0, x0, b)")
        self.assertEqual(size(normal_form(rules, ("h", sized(199)))[0]), 400)
        with self.assertRaises(TooLarge):
            normal_form(rules, ("h", sized(200)))

    def test_a_visited_term_may_be_too_large(self):
        rules = rules_of("h(x0) = k(x0, x0, x0)", "k(x0, x1, x2) = a")
        self.assertEqual(normal_form(rules, ("h", sized(133)))[0], A)
        with self.assertRaises(TooLarge):
            normal_form(rules, ("h", sized(134)))
        with self.assertRaises(StepLimit):
            normal_form(rules, ("h", sized(134)), limit=0)
        with self.assertRaises(StepLimit):
            normal_form(rules, ("h", sized(133)), limit=1)

    def test_results_that_would_be_huge(self):
        large = (("g", 0), bush("f", 7, 0))
        with self.assertRaises(TooLarge):
            normal_form([large], ("g", sized(399)))
        with self.assertRaises(TooLarge):
            normal_form([large], tower("g", 29, 0))
        with self.assertRaises(TooLarge):
            normal_form([large], tower("g", 29, 0), strategy="inner")

    def test_against_plain_normal_forms(self):
        rng = seeded(92)
        kinds = {}
        for _ in range(300):
            rules, term, limit = random_rules(rng), random_term(rng, 4), rng.choice([0, 1, 3, 8, 40])
            for strategy in ("outer", "inner"):
                wanted = plain_normal_form(rules, term, strategy, limit)
                try:
                    found = normal_form(rules, term, strategy=strategy, limit=limit)
                    self.assertEqual(visited(rules, [], term, found[1])[-1], found[0])
                    self.assertIs(is_normal(rules, found[0]), True)
                except HallError as error:
                    found = error.__class__
                self.assertEqual(found, wanted)
                kind = wanted if isinstance(wanted, type) else len(wanted[1]) > 2
                kinds[kind] = kinds.get(kind, 0) + 1
        self.assertEqual(len(kinds), 4)
        self.assertGreater(min(kinds.values()), 5)

    def test_many_steps_with_large_terms(self):
        term = ("k", sorting(13, 14), sized(300), A)
        self.assertEqual(len(normal_form(SWAP, term)[1]), 182)
        swap = [(("f", 0, ("f", 1, sized(390))), ("f", 1, ("f", 0, sized(390))))]
        with self.assertRaises(StepLimit):
            normal_form(swap, ("f", A, ("f", B, sized(390))), limit=2000)

    def test_arguments_and_results(self):
        rules = rules_of("f(x0, x1) = x0", "a = b")
        before = copy.deepcopy(rules)
        term, steps = normal_form(rules, t("f(a, a)"))
        self.assertEqual(rules, before)
        steps[0][3].clear()
        steps.clear()
        self.assertEqual(len(normal_form(rules, t("f(a, a)"))[1]), 2)

    def test_neither_error_is_the_other(self):
        self.assertFalse(issubclass(StepLimit, TooLarge))
        self.assertFalse(issubclass(TooLarge, StepLimit))


class JoinTest(unittest.TestCase):
    def test_joining_terms(self):
        left, right = t("f(f(x0, h(x1)), x1)"), t("f(f(a, x0), f(h(x2), x2))")
        term, left_steps, right_steps = join(GROUP, left, right)
        self.assertEqual(term, t("f(x0, a)"))
        self.assertEqual(left_steps, normal_form(GROUP, left)[1])
        self.assertEqual(right_steps, normal_form(GROUP, right)[1])
        self.assertEqual(visited(GROUP, [], left, left_steps)[-1], term)
        self.assertEqual(visited(GROUP, [], right, right_steps)[-1], term)
        self.assertEqual(join(GROUP, A, A), (A, [], []))
        self.assertEqual(join(GROUP, t("f(a, x0)"), 0), (0, [(("given", 0), True, (), {0: 0})], []))

    def test_strategy_outer(self):
        rules = rules_of("f(x0, x1) = x0", "a = b")
        self.assertEqual(join(rules, t("f(b, a)"), B), (B, [(("given", 0), True, (), {0: B, 1: A})], []))

    def test_not_joining_terms(self):
        for left, right in [("a", "b"), ("x0", "x1"), ("f(x0, a)", "x0"), ("f(a, x0)", "f(x0, a)")]:
            self.assertIsNone(join(GROUP, t(left), t(right)))
            self.assertIsNone(join(GROUP, t(right), t(left)))
        self.assertIsNone(join([], A, B))

    def test_errors(self):
        rules = rules_of("a = g(a)", "b = b")
        for left, right, error in [(A, ("c",), TooLarge), (("c",), A, TooLarge), (B, ("c",), StepLimit),
                                   (("c",), B, StepLimit), (A, B, TooLarge), (B, A, StepLimit), (A, A, TooLarge)]:
            with self.assertRaises(error):
                join(rules, left, right)


class InvalidRuleTest(unittest.TestCase):
    def test_invalid_rules_come_first(self):
        good, loop, bad = eq("b = g(b)"), eq("a = a"), eq("g(x0) = x1")
        for rules, index in [([bad], 0), ([good, loop, bad, bad], 2), ([loop, (0, A), good], 1)]:
            calls = [lambda: redexes(rules, A), lambda: is_normal(rules, A), lambda: normal_form(rules, A),
                     lambda: normal_form(rules, B, limit=0), lambda: normal_form(rules, B), lambda: join(rules, A, B),
                     lambda: join(rules, ("c",), ("c",)), lambda: first_redex(rules, 0, "outer"),
                     lambda: first_redex(rules, A, "inner"), lambda: normal_form(rules, A, strategy="inner")]
            for call in calls:
                for error in (InvalidRule, HallError, ValueError):
                    with self.assertRaises(error) as caught:
                        call()
                    self.assertEqual(caught.exception.index, index)


if __name__ == "__main__":
    unittest.main()
