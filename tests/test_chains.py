import copy
import unittest

from derivations import GIVEN, random_stages, random_steps
from helpers import A, B, bush, eq, plain_substitute, random_term, seeded, sized, t, tower
from joinedends.chains import apply_step, instantiated, is_derivation, moved, reverse, shorten, used, visited
from joinedends.errors import BadStep, HallError
from joinedends.terms import replace, subterm, substitute

TWO = [eq("f(x0, x1) = f(x1, x0)"), eq("f(x0, a) = x0")]
TO_X0 = [(("given", 0), True, (), {0: A, 1: 0}), (("given", 1), True, (), {0: 0})]


class ApplyStepTest(unittest.TestCase):
    def test_the_example_of_the_document(self):
        start = t("f(a, x0)")
        self.assertEqual(apply_step(TWO, [], start, TO_X0[0]), t("f(x0, a)"))
        self.assertEqual(apply_step(TWO, [], t("f(x0, a)"), TO_X0[1]), 0)

    def test_backward_and_at_inner_positions(self):
        step = (("given", 1), False, (2, 1), {0: t("g(x3)")})
        term = t("k(a, f(g(x3), b), x1)")
        self.assertEqual(apply_step(TWO, [], term, step), t("k(a, f(f(g(x3), a), b), x1)"))
        self.assertEqual(apply_step(TWO, [], 7, (("given", 1), False, (), {0: 7})), t("f(x7, a)"))

    def test_stages(self):
        stages = [(A, B, []), (t("g(x0)"), t("h(x0)"), [])]
        step = (("stage", 1), True, (1,), {0: B})
        self.assertEqual(apply_step([], stages, t("f(g(b), a)"), step), t("f(h(b), a)"))
        step = (("stage", 0), False, (2,), {})
        self.assertEqual(apply_step([], stages, t("f(a, b)"), step), t("f(a, a)"))

    def test_undoing_a_step(self):
        rng = seeded(9)
        for _ in range(60):
            term = random_term(rng, 4)
            steps, end = random_steps(rng, [], term, 1)
            for source, is_forward, position, values in steps:
                after = apply_step(GIVEN, [], term, (source, is_forward, position, values))
                self.assertEqual(after, end)
                self.assertEqual(apply_step(GIVEN, [], end, (source, not is_forward, position, values)), term)

    def bad(self, given, stages, term, step):
        for error in (BadStep, HallError, ValueError):
            with self.assertRaises(error) as caught:
                apply_step(given, stages, term, step)
            self.assertEqual(caught.exception.number, 0)

    def test_an_index_that_names_no_equation(self):
        stages = [(A, B, [])]
        for index in (2, 3, 100, -1, -2):
            self.bad(TWO, stages, t("f(a, x0)"), (("given", index), True, (), {0: A, 1: 0}))
        for index in (1, 2, -1):
            self.bad(TWO, stages, A, (("stage", index), True, (), {}))
        self.bad([], [], A, (("given", 0), True, (), {}))
        self.bad([], [], A, (("stage", 0), True, (), {}))
        self.assertEqual(apply_step(TWO, stages, A, (("stage", 0), True, (), {})), B)

    def test_positions_that_the_term_lacks(self):
        for position in [(0,), (-1,), (2, 1), (3,), (1, 1), (2, 0), (1, 0)]:
            self.bad([eq("x0 = g(x0)")], [], t("f(a, x0)"), (("given", 0), True, position, {0: A}))

    def test_keys_are_exactly_the_variables(self):
        for keys in [{}, {0: A}, {1: 0}, {0: A, 1: 0, 2: A}, {0: A, 2: 0}]:
            self.bad(TWO, [], t("f(a, x0)"), (("given", 0), True, (), keys))
        given = [eq("a = g(x4)")]
        self.assertEqual(apply_step(given, [], A, (("given", 0), True, (), {4: B})), t("g(b)"))
        self.bad(given, [], A, (("given", 0), True, (), {}))
        self.assertEqual(apply_step(given, [], t("g(b)"), (("given", 0), False, (), {4: B})), A)
        self.bad(given, [], t("g(b)"), (("given", 0), False, (), {4: B, 0: B}))

    def test_the_subterm_equals_the_source_side(self):
        term = t("f(a, x0)")
        self.bad(TWO, [], term, (("given", 0), True, (), {0: 0, 1: A}))
        self.bad(TWO, [], term, (("given", 0), True, (1,), {0: A, 1: 0}))
        self.bad(TWO, [], term, (("given", 0), False, (), {0: A, 1: 0}))
        self.bad(TWO, [], t("f(x0, a)"), (("given", 1), False, (), {0: 0}))
        self.bad(TWO, [], term, (("given", 1), True, (), {0: 0}))

    def test_results_that_are_too_large(self):
        given = [eq("g(x0) = h(x0)"), eq("x0 = g(x0)"), eq("g(x0) = f(x0, x0)"), eq("a = g(x0)")]
        whole = ("g", sized(3999))
        self.assertEqual(apply_step(given, [], whole, (("given", 0), True, (), {0: sized(3999)})), ("h", sized(3999)))
        self.bad(given, [], whole, (("given", 1), True, (), {0: whole}))
        self.bad(given, [], whole, (("given", 1), True, (1,), {0: sized(3999)}))
        self.assertEqual(apply_step(given, [], sized(3999), (("given", 1), True, (), {0: sized(3999)})), whole)
        half = sized(2000)
        self.bad(given, [], ("g", half), (("given", 2), True, (), {0: half}))
        self.bad(given, [], A, (("given", 3), True, (), {0: sized(4000)}))
        self.assertEqual(apply_step(given, [], A, (("given", 3), True, (), {0: sized(3999)})), whole)

    def test_results_that_are_too_deep(self):
        given = [eq("x0 = g(x0)"), eq("a = g(x0)")]
        high = tower("g", 119, A)
        low = tower("g", 118, A)
        self.assertEqual(apply_step(given, [], low, (("given", 0), True, (), {0: low})), high)
        self.bad(given, [], high, (("given", 0), True, (), {0: high}))
        self.bad(given, [], high, (("given", 0), True, (1,) * 119, {0: A}))
        self.assertEqual(apply_step(given, [], low, (("given", 0), True, (1,) * 118, {0: A})), high)
        self.bad(given, [], ("f", A, A), (("given", 1), True, (2,), {0: high}))
        found = apply_step(given, [], ("f", A, A), (("given", 1), True, (2,), {0: tower("g", 117, A)}))
        self.assertEqual(found, ("f", A, tower("g", 118, A)))

    def test_a_result_may_be_small_although_the_term_is_not(self):
        given = [eq("g(x0) = a")]
        high = tower("g", 119, A)
        self.assertEqual(apply_step(given, [], high, (("given", 0), True, (1,), {0: tower("g", 117, A)})), t("g(a)"))

    def test_a_start_beyond_the_bounds(self):
        given = [eq("g(x0) = a"), eq("a = b")]
        high = ("f", A, tower("g", 124, A))
        cut = (("given", 0), True, (2, 1), {0: tower("g", 122, A)})
        self.assertEqual(apply_step(given, [], high, cut), ("f", A, t("g(a)")))
        self.bad(given, [], high, (("given", 1), True, (1,), {}))
        self.bad(given, [], high, (("given", 0), True, (2,) + (1,) * 120, {0: t("g(g(a))")}))
        wide = ("f", A, ("g", sized(4010)))
        cut = (("given", 0), True, (2,), {0: sized(4010)})
        self.assertEqual(apply_step(given, [], wide, cut), ("f", A, A))
        self.bad(given, [], wide, (("given", 1), True, (1,), {}))

    def test_huge_results_are_not_built(self):
        wide = bush("f", 10, 0)
        stages = [(wide, A, []), (B, wide, [])]
        big = sized(3999)
        self.bad([], stages, A, (("stage", 0), False, (), {0: big}))
        self.bad([], stages, B, (("stage", 1), True, (), {0: big}))
        self.bad([], stages, big, (("stage", 0), True, (), {0: big}))

    def test_arguments_are_unchanged(self):
        given, stages, step = list(TWO), [(A, B, [TO_X0[0]])], (("given", 0), True, (), {0: A, 1: 0})
        saved = copy.deepcopy((given, stages, step))
        apply_step(given, stages, t("f(a, x0)"), step)
        self.assertEqual((given, stages, step), saved)


class VisitedTest(unittest.TestCase):
    def test_the_visited_terms(self):
        self.assertEqual(visited(TWO, [], t("f(a, x0)"), TO_X0), [t("f(a, x0)"), t("f(x0, a)"), 0])
        self.assertEqual(visited(TWO, [], A, []), [A])
        self.assertEqual(visited([], [], 3, []), [3])

    def test_the_first_step_that_does_not_apply(self):
        start = t("f(a, x0)")
        good, bad = TO_X0[0], (("given", 5), True, (), {})
        back = (("given", 0), True, (), {0: 0, 1: A})
        for steps, number in [([bad], 0), ([bad, good], 0), ([good, bad, bad], 1), ([good, good], 1),
                              ([good, back, good, bad], 3)]:
            with self.assertRaises(BadStep) as caught:
                visited(TWO, [], start, steps)
            self.assertEqual(caught.exception.number, number)

    def test_many_steps(self):
        given = [eq("a = b")]
        steps = [(("given", 0), at % 2 == 0, (1,), {}) for at in range(4000)]
        found = visited(given, [], ("g", A), steps)
        self.assertEqual(len(found), 4001)
        self.assertEqual(found[3999:], [("g", B), ("g", A)])
        steps[3990] = steps[3991]
        with self.assertRaises(BadStep) as caught:
            visited(given, [], ("g", A), steps)
        self.assertEqual(caught.exception.number, 3990)

    def test_deeper_terms_are_found_after_a_shallow_step(self):
        given = [eq("a = b"), eq("x0 = g(x0)")]
        term = ("f", A, tower("g", 118, A))
        steps = [(("given", 0), True, (1,), {}), (("given", 1), True, (2,) + (1,) * 118, {0: A})]
        with self.assertRaises(BadStep) as caught:
            visited(given, [], term, steps)
        self.assertEqual(caught.exception.number, 1)

    def test_the_returned_list_is_new(self):
        visited(TWO, [], t("f(a, x0)"), TO_X0).clear()
        self.assertEqual(len(visited(TWO, [], t("f(a, x0)"), TO_X0)), 3)


class IsDerivationTest(unittest.TestCase):
    given = [eq("f(x0) = g(x0)")]
    stages = [(t("f(f(x0))"), t("g(g(x0))"),
               [(("given", 0), True, (), {0: t("f(x0)")}), (("given", 0), True, (1,), {0: 0})]),
              (t("g(g(a))"), t("f(f(a))"), [(("stage", 0), False, (), {0: A})]),
              (t("h(f(f(a)))"), t("h(f(f(a)))"),
               [(("stage", 1), False, (1,), {}), (("stage", 0), False, (1,), {0: A})])]

    def check(self, wanted, stages, left=None, right=None, given=None):
        left = stages[-1][0] if left is None else left
        right = stages[-1][1] if right is None else right
        self.assertIs(is_derivation(self.given if given is None else given, left, right, stages), wanted)

    def test_derivations(self):
        for count in (1, 2, 3):
            self.check(True, self.stages[:count])
        self.check(True, [(A, A, [])], given=[])
        self.check(True, [(0, 0, [])])
        self.assertIs(is_derivation(TWO, t("f(a, x0)"), 0, [(t("f(a, x0)"), 0, TO_X0)]), True)

    def test_no_stages(self):
        self.assertIs(is_derivation(self.given, A, A, []), False)

    def test_another_equation(self):
        self.check(False, self.stages, left=t("h(g(g(a)))"))
        self.check(False, self.stages, right=A)
        self.check(False, self.stages[:2], left=t("f(f(a))"), right=t("g(g(a))"))
        self.check(False, self.stages[:1], left=t("f(f(x1))"), right=t("g(g(x1))"))
        self.check(False, self.stages, left=self.stages[0][0], right=self.stages[0][1])

    def test_another_last_term(self):
        for number in range(3):
            left, _, steps = self.stages[number]
            stages = list(self.stages)
            stages[number] = (left, t("g(f(a))"), steps)
            self.check(False, stages)

    def test_a_stage_that_names_itself_or_a_later_one(self):
        for number, name in [(0, 0), (0, 1), (0, 2), (1, 1), (1, 2)]:
            stages = list(self.stages)
            left, right, _ = stages[number]
            names = {0: 0} if name == 0 else {}
            stages[number] = (left, right, [(("stage", name), True, (), names)])
            self.check(False, stages)
        self.check(False, [(A, B, [(("stage", 0), True, (), {})])])
        self.check(False, [(A, B, [(("stage", 1), True, (), {})]), (A, B, [(("stage", 0), True, (), {})])])

    def test_negative_indexes(self):
        self.check(False, [(A, B, [(("stage", -1), True, (), {})])])
        self.check(False, [(A, B, [(("given", -1), True, (), {})])], given=[(A, B)])

    def test_a_step_left_out(self):
        for number in range(3):
            for at in range(len(self.stages[number][2])):
                left, right, steps = self.stages[number]
                stages = list(self.stages)
                stages[number] = (left, right, steps[:at] + steps[at + 1:])
                self.check(False, stages)

    def test_stages_in_another_order(self):
        one, two, three = self.stages
        for stages in ([two, one, three], [three, one, two], [one, three, two], [two, three, one]):
            self.check(False, stages)

    def test_a_given_equation_left_out(self):
        self.check(False, self.stages, given=[])
        self.check(False, self.stages, given=[eq("f(x0) = h(x0)")])
        given = [eq("a = b"), eq("b = c")]
        stages = [(A, ("c",), [(("given", 0), True, (), {}), (("given", 1), True, (), {})])]
        self.check(True, stages, given=given)
        self.check(False, stages, given=given[:1])
        self.check(False, stages, given=given[1:])

    def test_random_derivations(self):
        rng = seeded(10)
        for _ in range(40):
            stages = random_stages(rng, 5)
            saved = copy.deepcopy(stages)
            self.assertIs(is_derivation(GIVEN, stages[-1][0], stages[-1][1], stages), True)
            self.assertEqual(stages, saved)

    def test_many_stages(self):
        stages = [(("g", 0), ("h", 0), [(("given", 0), True, (), {0: 0})])]
        for number in range(1, 4000):
            stages.append((("g", 0), ("h", 0), [(("stage", number - 1), True, (), {0: 0})]))
        given = [eq("g(x0) = h(x0)")]
        self.check(True, stages, given=given)
        stages[3000] = (("g", 0), ("h", 0), [(("stage", 3000), True, (), {0: 0})])
        self.check(False, stages, given=given)


class ChangedStepsTest(unittest.TestCase):
    def walk(self, seed):
        rng = seeded(seed)
        for _ in range(40):
            stages = random_stages(rng, 2)
            start = random_term(rng, 4)
            steps, end = random_steps(rng, stages, start, 5)
            yield rng, stages, start, steps, end

    def check_new(self, steps, made, saved):
        self.assertEqual(steps, saved)
        for step in made:
            step[3].clear()
        made.clear()
        self.assertEqual(steps, saved)

    def test_reverse(self):
        self.assertEqual(reverse([]), [])
        self.assertEqual(reverse(TO_X0), [(("given", 1), False, (), {0: 0}), (("given", 0), False, (), {0: A, 1: 0})])
        for _, stages, start, steps, _ in self.walk(11):
            saved = copy.deepcopy(steps)
            terms = visited(GIVEN, stages, start, steps)
            made = reverse(steps)
            self.assertEqual(visited(GIVEN, stages, terms[-1], made), terms[::-1])
            self.assertEqual(reverse(made), steps)
            self.check_new(steps, made, saved)

    def test_moved(self):
        self.assertEqual(moved([], (1,)), [])
        self.assertEqual(moved([(("given", 0), True, (2, 1), {})], (3, 1)), [(("given", 0), True, (3, 1, 2, 1), {})])
        around = t("k(a, g(x0), b)")
        for _, stages, start, steps, end in self.walk(12):
            saved = copy.deepcopy(steps)
            for position in [(), (1,), (2, 1), (3,)]:
                made = moved(steps, position)
                terms = visited(GIVEN, stages, replace(around, position, start), made)
                self.assertEqual(terms[-1], replace(around, position, end))
                self.assertEqual([subterm(term, position) for term in terms], visited(GIVEN, stages, start, steps))
                self.check_new(steps, made, saved)

    def test_instantiated(self):
        self.assertEqual(instantiated([], {0: A}), [])
        step = (("given", 0), True, (1,), {0: t("f(x1, x2)"), 1: 0})
        wanted = (("given", 0), True, (1,), {0: t("f(x0, x2)"), 1: t("g(x1)")})
        self.assertEqual(instantiated([step], {1: 0, 0: t("g(x1)")}), [wanted])
        for rng, stages, start, steps, end in self.walk(13):
            saved = copy.deepcopy(steps)
            values = {key: random_term(rng, 3) for key in range(2)}
            made = instantiated(steps, values)
            terms = visited(GIVEN, stages, substitute(start, values), made)
            self.assertEqual(terms[-1], plain_substitute(end, values))
            self.check_new(steps, made, saved)


class ShortenTest(unittest.TestCase):
    names = "rstu"
    given = [((one,), (other,)) for one in "rstu" for other in "rstu"]

    def steps(self, path):
        return [(("given", self.names.index(one) * 4 + self.names.index(other)), True, (), {})
                for one, other in zip(path, path[1:])]

    def test_examples_of_the_document(self):
        for path, kept in [("rstsu", [0, 3]), ("rsrtr", []), ("rstu", [0, 1, 2]), ("r", []), ("rr", []),
                           ("rrs", [1]), ("rsst", [0, 2]), ("rstrstu", [3, 4, 5]), ("rsturs", [4])]:
            steps = self.steps(path)
            self.assertEqual(shorten(self.given, (path[0],), steps), [steps[at] for at in kept], path)

    def test_random_chains(self):
        rng = seeded(14)
        for _ in range(60):
            start = random_term(rng, 3, 1)
            steps, end = random_steps(rng, [], start, 12)
            saved = copy.deepcopy(steps)
            made = shorten(GIVEN, start, steps)
            terms = visited(GIVEN, [], start, made)
            self.assertEqual(terms[-1], end)
            for at, term in enumerate(terms):
                self.assertNotIn(term, terms[:at])
            for step in made:
                self.assertIn(step, steps)
                step[3].clear()
            self.assertEqual(steps, saved)

    def test_bad_steps(self):
        good = self.steps("rsr")
        for steps, number in [([good[1]], 0), ([good[0], good[0]], 1), (good + [good[1]], 2),
                              ([(("stage", 0), True, (), {})], 0), ([(("given", 99), True, (), {})], 0)]:
            with self.assertRaises(BadStep) as caught:
                shorten(self.given, ("r",), steps)
            self.assertEqual(caught.exception.number, number)

    def test_deep_terms(self):
        term = tower("g", 118, A)
        given = [eq("a = b"), eq("b = c")]
        place = (1,) * 118
        steps = [(("given", 0), True, place, {}), (("given", 0), False, place, {}), (("given", 0), True, place, {}),
                 (("given", 1), True, place, {})]
        self.assertEqual(shorten(given, term, steps), [steps[2], steps[3]])


class UsedTest(unittest.TestCase):
    def test_used(self):
        def step(kind, index):
            return (kind, index), True, (), {}
        self.assertEqual(used([(A, A, [])]), [])
        stages = [(A, B, [step("given", 11), step("given", 2), step("given", 11)]),
                  (A, B, [step("stage", 0), step("given", 3)]), (A, B, []), (A, B, [step("stage", 1)])]
        self.assertEqual(used(stages), [2, 3, 11])
        self.assertEqual(used(stages[2:]), [])
        used(stages).clear()
        self.assertEqual(used(stages[:1]), [2, 11])


if __name__ == "__main__":
    unittest.main()
