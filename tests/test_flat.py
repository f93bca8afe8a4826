import copy
import unittest

from derivations import GIVEN, plain_flat, random_stages
from helpers import A, B, bush, eq, seeded, sized, t, tower
from joinedends.chains import flat_length, flatten, is_derivation, visited
from joinedends.errors import HallError, StepLimit, TooLarge

EXAMPLE = [(t("f(f(x0))"), t("g(g(x0))"),
            [(("given", 0), True, (), {0: t("f(x0)")}), (("given", 0), True, (1,), {0: 0})]),
           (t("g(g(a))"), t("f(f(a))"), [(("stage", 0), False, (), {0: A})])]
FLAT = [(("given", 0), False, (1,), {0: A}), (("given", 0), False, (), {0: t("f(a)")})]


def by_stage(number, substitution=None, is_forward=True, position=()):
    return ("stage", number), is_forward, position, dict(substitution or {})


def by_given(number, substitution=None, is_forward=True, position=()):
    return ("given", number), is_forward, position, dict(substitution or {})


class FlatTest(unittest.TestCase):
    def test_the_example_of_the_document(self):
        self.assertTrue(is_derivation([eq("f(x0) = g(x0)")], t("g(g(a))"), t("f(f(a))"), EXAMPLE))
        self.assertEqual(flat_length(EXAMPLE), 2)
        self.assertEqual(flatten(EXAMPLE, 2), FLAT)
        self.assertEqual(flatten(EXAMPLE, 10000), FLAT)
        self.assertEqual(flat_length(EXAMPLE[:1]), 2)
        self.assertEqual(flatten(EXAMPLE[:1], 2), EXAMPLE[0][2])

    def test_limits(self):
        for limit in (0, 1):
            for error in (StepLimit, HallError, ValueError):
                with self.assertRaises(error):
                    flatten(EXAMPLE, limit)
        self.assertEqual(flatten([(A, A, [])], 0), [])
        self.assertEqual(flat_length([(A, A, [])]), 0)

    def test_only_the_last_stage_counts(self):
        stages = EXAMPLE + [(A, A, [])]
        self.assertEqual(flat_length(stages), 0)
        self.assertEqual(flatten(stages, 0), [])
        stages.append((A, A, [by_stage(2), by_stage(2, {}, False)]))
        self.assertEqual(flat_length(stages), 0)
        self.assertEqual(flatten(stages, 0), [])

    def test_random_derivations(self):
        rng = seeded(15)
        longest = 0
        for _ in range(150):
            stages = random_stages(rng, 12)
            saved = copy.deepcopy(stages)
            wanted = plain_flat(stages, len(stages) - 1)
            self.assertEqual(flat_length(stages), len(wanted))
            self.assertEqual(flatten(stages, len(wanted)), wanted)
            if wanted:
                with self.assertRaises(StepLimit):
                    flatten(stages, len(wanted) - 1)
            terms = visited(GIVEN, [], stages[-1][0], wanted)
            self.assertEqual(terms[-1], stages[-1][1])
            self.assertEqual(stages, saved)
            longest = max(longest, len(wanted))
        self.assertGreater(longest, 20)

    def test_what_is_returned_is_new(self):
        stages = [(t("g(x0)"), t("h(x0)"), [by_given(0, {0: 0})]),
                  (t("g(a)"), t("h(a)"), [by_stage(0, {0: A}), by_stage(0, {0: A}, False), by_given(0, {0: A})])]
        self.assertTrue(is_derivation([eq("g(x0) = h(x0)")], t("g(a)"), t("h(a)"), stages))
        saved = copy.deepcopy(stages)
        found = flatten(stages, 3)
        self.assertEqual(len({id(step[3]) for step in found}), 3)
        for step in found:
            step[3].clear()
        found.clear()
        self.assertEqual(stages, saved)
        self.assertEqual(len(flatten(stages, 3)), 3)

    def test_variables_that_only_values_have(self):
        # The key 1 is no variable of stage 0, so its value keeps the variable 1 until stage 2.
        given = [eq("g(x0) = f(x0, x1)"), eq("f(x0, x1) = h(x0)")]
        stages = [(t("g(x0)"), t("h(x0)"), [by_given(0, {0: 0, 1: 1}), by_given(1, {0: 0, 1: 1})]),
                  (t("g(x1)"), t("h(x1)"), [by_stage(0, {0: 1})]),
                  (t("g(b)"), t("h(b)"), [by_stage(1, {1: B})])]
        self.assertTrue(is_derivation(given, t("g(b)"), t("h(b)"), stages))
        wanted = [by_given(0, {0: B, 1: B}), by_given(1, {0: B, 1: B})]
        self.assertEqual(plain_flat(stages, 2), wanted)
        self.assertEqual(flatten(stages, 2), wanted)

    def test_lengths_that_no_list_can_have(self):
        stages = [(A, A, [by_given(0), by_given(0, {}, False)])]
        for number in range(1, 1990):
            stages.append((A, A, [by_stage(number - 1), by_stage(number - 1)]))
        self.assertTrue(is_derivation([eq("a = b")], A, A, stages))
        self.assertEqual(flat_length(stages), 2 ** 1990)
        with self.assertRaises(StepLimit):
            flatten(stages, 10000)

    def test_long_chains_of_stages(self):
        # Many single steps below many branches, and many branches below many single steps.
        flips = [(A, A, [by_given(0), by_given(0, {}, False)])]
        for number in range(1, 2000):
            flips.append((A, A, [by_stage(number - 1)]))
        for _ in range(12):
            flips.append((A, A, [by_stage(len(flips) - 1), by_stage(len(flips) - 1, {}, False)]))
        for _ in range(1500):
            flips.append((A, A, [by_stage(len(flips) - 1)]))
        self.assertEqual(flat_length(flips), 8192)
        found = flatten(flips, 8192)
        self.assertEqual(found, [by_given(0), by_given(0, {}, False)] * 4096)

    def test_stages_without_steps_take_no_time(self):
        stages = [(A, A, [])]
        for _ in range(1900):
            stages.append((A, A, [by_stage(len(stages) - 1), by_stage(len(stages) - 1)]))
        stages.append((A, B, [by_given(0), by_given(0, {}, False), by_stage(1900), by_given(0)]))
        stages.append((B, A, [by_stage(1901, {}, False), by_stage(1900)]))
        self.assertTrue(is_derivation([eq("a = b")], B, A, stages))
        wanted = [by_given(0, {}, False), by_given(0), by_given(0, {}, False)]
        self.assertEqual(flatten(stages, 3), wanted)


class TooLargeTest(unittest.TestCase):
    given = [eq("h(x0) = h(f(x0, x0))"), eq("h(x0) = b"), eq("a = b"), eq("h(x0) = h(g(x0))"),
             eq("g(x0) = f(x0, x0)")]

    def doubling(self, count):
        stages = [(t("h(x0)"), B, [by_given(1, {0: 0})])]
        for number in range(count):
            stages.append((t("h(x0)"), B, [by_given(0, {0: 0}), by_stage(number, {0: ("f", 0, 0)})]))
        return stages

    def towering(self, count, value):
        """Stages whose flat form ends with the value below count applications of g."""
        grow = [by_given(3, {0: tower("g", height, 0)}) for height in range(count)]
        return [(t("h(x0)"), B, [by_given(1, {0: 0})]),
                (t("h(x0)"), B, grow + [by_stage(0, {0: tower("g", count, 0)})]),
                (("h", value), B, [by_stage(1, {0: value})])]

    def check_valid(self, stages):
        self.assertTrue(is_derivation(self.given, stages[-1][0], stages[-1][1], stages))

    def test_many_levels(self):
        for count in (1, 5, 10):
            stages = self.doubling(count)
            self.check_valid(stages)
            found = flatten(stages, count + 1)
            self.assertEqual(found[-1], by_given(1, {0: bush("f", count, 0)}))
            self.assertEqual(found, plain_flat(stages, count))
        for count in (11, 12, 100, 1500):
            stages = self.doubling(count)
            self.check_valid(stages)
            self.assertEqual(flat_length(stages), count + 1)
            for error in (TooLarge, HallError, ValueError):
                with self.assertRaises(error):
                    flatten(stages, count + 1)
            with self.assertRaises(StepLimit):
                flatten(stages, count)

    def check_bound(self, value):
        stages = self.towering(1, value)
        self.check_valid(stages)
        self.assertEqual(flatten(stages, 2)[1:], [by_given(1, {0: ("g", value)})])
        stages = self.towering(2, value)
        self.check_valid(stages)
        with self.assertRaises(TooLarge):
            flatten(stages, 3)
        with self.assertRaises(StepLimit):
            flatten(stages, 2)

    def test_size(self):
        self.check_bound(sized(3999))

    def test_depth(self):
        self.check_bound(tower("g", 118, A))

    def test_large_values_that_do_not_reach_the_flat_form(self):
        # Stage 0 has no flat steps and stage 1 changes nothing below its variable.
        double, value = t("f(x0, x0)"), sized(3000)
        inside = [by_given(4, {0: 0}, True, (2,)), by_stage(0, {0: double}, True, (2,)), by_stage(1, {0: double}),
                  by_given(4, {0: 0}, False, (2,))]
        stages = [(0, 0, []), (t("f(a, x0)"), t("f(b, x0)"), [by_given(2, {}, True, (1,))]),
                  (t("f(a, g(x0))"), t("f(b, g(x0))"), inside),
                  (("f", A, ("g", value)), ("f", B, ("g", value)), [by_stage(2, {0: value})])]
        self.check_valid(stages)
        wanted = [by_given(4, {0: value}, True, (2,)), by_given(2, {}, True, (1,)),
                  by_given(4, {0: value}, False, (2,))]
        self.assertEqual(plain_flat(stages, 3), wanted)
        self.assertEqual(flatten(stages, 3), wanted)

    def test_a_stage_that_is_not_named(self):
        stages = self.doubling(40) + [(A, B, [by_given(2)])]
        self.check_valid(stages)
        self.assertEqual(flatten(stages, 1), [by_given(2)])


if __name__ == "__main__":
    unittest.main()
