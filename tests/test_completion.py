import copy
import unittest

from completion_checks import (GROUP, check_derivation, complete_group, group_signature, path_completion,
                               random_equations, random_orders, state, written)
from helpers import A, B, bush, eq, rules_of, seeded, signature, sized, t, tower
from joinedends.chains import flat_length, flatten, used, visited
from joinedends.completion import Completion
from joinedends.errors import HallError, NotFound, StepLimit, TooLarge
from joinedends.overlaps import overlaps
from joinedends.pathorder import PathOrder
from joinedends.polynomialorder import PolynomialOrder
from joinedends.rewriting import join, normal_form
from joinedends.terms import canonical
from joinedends.weightorder import WeightOrder
from plain_completion import PlainCompletion

# By these rules f(g(.. a), x) takes about 2 ** (height + 1) steps to x, all in small terms.
COUNT = ["f(a, x0) = x0", "f(g(x0), x1) = f(x0, f(x0, x1))"]
LONG = ("f", tower("g", 10, A), B)


class BeginningTest(unittest.TestCase):
    def test_waiting_in_order(self):
        completion = path_completion("a b g h f k", "f(x3, x1) = f(x1, x3)", "g(x5) = h(x5)", "a = b", "h(x2) = g(x2)",
                                     "x7 = g(x4)", "f(x0, x1) = f(x1, x1)", "f(x0, x1) = f(x0, x1)", "b = a",
                                     "x2 = g(x2)", "g(g(x0)) = a")
        self.assertEqual(written(completion.waiting()), [
            "a = b", "b = a", "x0 = g(x0)", "x0 = g(x1)", "g(x0) = h(x0)", "h(x0) = g(x0)", "g(g(x0)) = a",
            "f(x0, x1) = f(x0, x1)", "f(x0, x1) = f(x1, x0)", "f(x0, x1) = f(x1, x1)"])
        self.assertEqual((completion.status(), completion.rules(), completion.aside(), completion.lost()),
                         ("running", [], [], 0))

    def test_sum_of_sizes_comes_first(self):
        completion = path_completion("a b g h f k", "g(g(g(a))) = a", "g(a) = g(b)", "f(a, a) = a", "a = f(a, b)",
                                     "g(b) = g(g(x0))", "g(b) = g(a)")
        self.assertEqual(written(completion.waiting()), [
            "a = f(a, b)", "g(a) = g(b)", "g(b) = g(a)", "f(a, a) = a", "g(b) = g(g(x0))", "g(g(g(a))) = a"])

    def test_equal_and_renamed_equations(self):
        completion = path_completion("a g", "g(x3) = x3", "g(x0) = x0", "g(x0) = x0", "g(x9) = x9")
        self.assertEqual(written(completion.waiting()), 4 * ["g(x0) = x0"])
        # The one that was added earlier comes first.
        completion.step()
        self.assertEqual(used(completion.derivation(0)), [0])
        self.assertEqual(completion.run(10), "complete")
        self.assertEqual(written(completion.rules()), ["g(x0) = x0"])

    def test_the_empty_list(self):
        completion = path_completion("a g")
        self.assertEqual(state(completion), ("running", [], [], [], 0))
        self.assertEqual(completion.step(), "complete")
        self.assertEqual(state(completion), ("complete", [], [], [], 0))

    def test_no_steps(self):
        completion = path_completion("a g", "g(x0) = x0")
        before = state(completion)
        self.assertEqual(completion.run(0), "running")
        self.assertEqual(state(completion), before)
        self.assertEqual(before, ("running", [], [eq("g(x0) = x0")], [], 0))

    def test_the_list_changed_afterwards(self):
        given = rules_of("g(g(x0)) = x0", "g(a) = b")
        completion = Completion(PathOrder(signature("a b g")), given)
        del given[0]
        given.extend(rules_of("a = b", "g(b) = a", "b = g(x0)"))
        self.assertEqual(written(completion.waiting()), ["g(a) = b", "g(g(x0)) = x0"])
        self.assertEqual(completion.run(20), "complete")
        self.assertCountEqual(written(completion.rules()), ["g(a) = b", "g(b) = a", "g(g(x0)) = x0"])
        for k, rule in enumerate(completion.rules()):
            check_derivation(self, rules_of("g(g(x0)) = x0", "g(a) = b"), *rule, completion.derivation(k))

    def test_derivations_of_no_rule(self):
        completion = path_completion("a g", "g(x0) = x0")
        for count in (0, 1):
            for k in (count, count + 1, -1, -2, 1000):
                for error in (NotFound, HallError, ValueError):
                    with self.assertRaises(error):
                        completion.derivation(k)
            completion.step()
        check_derivation(self, [eq("g(x0) = x0")], ("g", 0), 0, completion.derivation(0))

    def test_returned_lists_are_new(self):
        completion = path_completion("b a g f", "g(a) = b", "f(x0, x1) = f(x1, x0)",
                                     "g(g(g(g(g(x0))))) = x0")
        completion.run(2)
        before = copy.deepcopy(state(completion))
        self.assertTrue(before[1] and before[2] and before[3])
        for found in (completion.rules(), completion.waiting(), completion.aside()):
            found.clear()
        first = completion.derivation(0)
        kept = copy.deepcopy(first)
        for stage in first:
            for step in stage[2]:
                step[3][19] = A
            stage[2].clear()
        first.clear()
        self.assertEqual(completion.derivation(0), kept)
        self.assertEqual(state(completion), before)


class StepTest(unittest.TestCase):
    def test_equal_normal_forms(self):
        completion = path_completion("b a g", "g(a) = b", "g(a) = b", "g(g(a)) = g(b)")
        self.assertEqual(completion.step(), "running")
        self.assertEqual((written(completion.rules()), written(completion.waiting())),
                         (["g(a) = b"], ["g(a) = b", "g(g(a)) = g(b)"]))
        completion.step()
        self.assertEqual((written(completion.rules()), written(completion.waiting())),
                         (["g(a) = b"], ["g(g(a)) = g(b)"]))
        completion.step()
        self.assertEqual(state(completion), ("running", [eq("g(a) = b")], [], [], 0))
        self.assertEqual(completion.step(), "complete")

    def test_either_direction(self):
        for text, rule in [("g(x4) = x4", "g(x0) = x0"), ("x4 = g(x4)", "g(x0) = x0"), ("a = g(x0)", "g(x0) = a"),
                           ("f(x1, x0) = g(x0)", "f(x0, x1) = g(x1)"), ("g(x3) = f(x2, x3)", "f(x0, x1) = g(x1)")]:
            completion = path_completion("a g f", text)
            self.assertEqual(completion.step(), "running")
            self.assertEqual(state(completion), ("running", [eq(rule)], [], [], 0), text)
            check_derivation(self, [eq(text)], *eq(rule), completion.derivation(0))
            self.assertEqual(completion.step(), "complete")

    def test_without_a_direction(self):
        for text, aside in [("f(x3, x1) = f(x1, x3)", "f(x0, x1) = f(x1, x0)"), ("g(x2) = g(x1)", "g(x0) = g(x1)"),
                            ("x3 = x2", "x0 = x1"), ("x3 = g(x2)", "x0 = g(x1)"), ("g(x2) = x3", "g(x0) = x1")]:
            completion = path_completion("a g f", text)
            self.assertEqual(completion.step(), "running")
            self.assertEqual(state(completion), ("running", [], [], [eq(aside)], 0))
            self.assertEqual(completion.step(), "stuck")
            self.assertEqual(state(completion), ("stuck", [], [], [eq(aside)], 0))

    def test_set_aside_as_normal_forms(self):
        completion = path_completion("a g h f", "h(x0) = x0", "f(h(x3), x2) = f(x2, h(h(x3)))")
        completion.run(2)
        self.assertEqual(written(completion.aside()), ["f(x0, x1) = f(x1, x0)"])
        # Here a variable is lost on the way, and the others are renamed.
        completion = path_completion("a g h f", "h(x0) = a", "f(h(x3), f(x2, x1)) = f(a, f(x1, x2))")
        completion.run(2)
        self.assertEqual(written(completion.aside()), ["f(a, f(x0, x1)) = f(a, f(x1, x0))"])

    def test_set_aside_by_errors(self):
        large = "h(h(h(h(h(h(h(h(x0)))))))) = a"
        completion = path_completion("a f h", "h(x0) = f(x0, x0)", large)
        with self.assertRaises(TooLarge):
            normal_form(rules_of("h(x0) = f(x0, x0)"), eq(large)[0])
        completion.run(2)
        self.assertEqual(state(completion), ("running", [eq("h(x0) = f(x0, x0)")], [], [eq(large)], 0))
        self.assertEqual(completion.step(), "stuck")
        self.assertEqual(completion.aside(), [eq(large)])
        with self.assertRaises(StepLimit):
            normal_form(rules_of(*COUNT), LONG)
        for sides in ((LONG, B), (B, LONG)):
            completion = Completion(PathOrder(signature("b a g f")), [sides, *rules_of(*COUNT)])
            completion.run(3)
            self.assertEqual(state(completion), ("running", rules_of(*COUNT), [], [sides], 0))

    def test_rules_whose_left_side_is_reduced(self):
        completion = path_completion("b g a f", "f(a, b) = b", "a = g(g(g(b)))")
        completion.step()
        self.assertEqual(written(completion.rules()), ["f(a, b) = b"])
        completion.step()
        self.assertEqual((written(completion.rules()), written(completion.waiting())),
                         (["a = g(g(g(b)))"], ["f(a, b) = b"]))
        completion.step()
        self.assertEqual(written(completion.rules()), ["a = g(g(g(b)))", "f(g(g(g(b))), b) = b"])
        check_derivation(self, rules_of("f(a, b) = b", "a = g(g(g(b)))"), *eq("f(g(g(g(b))), b) = b"),
                         completion.derivation(1))
        self.assertEqual(completion.run(9), "complete")

    def test_rules_whose_right_side_is_reduced(self):
        given = rules_of("h(x0) = a", "a = g(g(g(b)))", "k(x0, x1, x1) = h(x0)")
        completion = Completion(PathOrder(signature("b g a h k")), given)
        completion.run(1)
        self.assertEqual(written(completion.rules()), ["h(x0) = a"])
        completion.run(1)
        self.assertEqual(written(completion.rules()), ["h(x0) = g(g(g(b)))", "a = g(g(g(b)))"])
        self.assertEqual(written(completion.waiting()), ["k(x0, x1, x1) = h(x0)"])
        check_derivation(self, given, *eq("h(x0) = g(g(g(b)))"), completion.derivation(0))
        completion.run(1)
        self.assertEqual(written(completion.rules())[2], "k(x0, x1, x1) = g(g(g(b)))")
        self.assertEqual(completion.run(9), "complete")

    def test_a_right_side_that_raises_an_error_stays(self):
        right = tower("h", 8, 0)
        given = [(("g", 0), right), (("h", 0), ("f", ("f", 0, 0), bush("f", 3, A)))]
        completion = Completion(PathOrder(signature("a b f h g")), given)
        completion.run(2)
        self.assertEqual(completion.rules(), given)
        self.assertEqual((completion.waiting(), completion.aside(), completion.lost()), ([], [], 0))
        self.assertEqual(completion.step(), "stuck")
        self.assertEqual(completion.lost(), 1)

    def test_the_order_of_overlaps(self):
        # Equal equations are told apart by the order of the facts that they are made of.
        completion = path_completion("a b g h f k", "g(g(x0)) = x0", "f(g(g(a)), g(x0)) = x0")
        completion.run(2)
        self.assertEqual(written(completion.rules()), ["g(g(x0)) = x0", "f(a, g(x0)) = x0"])
        self.assertEqual(written(completion.waiting()), ["f(a, x0) = g(x0)"])
        found = [row[4:6] for row in overlaps(completion.rules()) if row[4] != row[5]]
        self.assertEqual([canonical(*sides) for sides in found], completion.waiting())

    def test_trivial_overlaps_are_passed_over(self):
        for text in ("g(g(x0)) = x0", "f(x0, x0) = x0", "g(g(g(x0))) = g(x0)"):
            completion = path_completion("a g f", text)
            completion.step()
            self.assertEqual(state(completion), ("running", [eq(text)], [], [], 0))
            self.assertEqual(completion.step(), "complete")

    def test_overlaps_that_are_too_large(self):
        value = sized(200)
        given = [(("f", ("g", 0), sized(199)), A), (("g", value), B)]
        completion = Completion(PathOrder(signature("a b f g")), given)
        completion.run(2)
        self.assertEqual((len(completion.rules()), completion.waiting(), completion.lost()), (2, [], 1))
        self.assertEqual((completion.step(), completion.lost()), ("stuck", 1))
        given[0] = (("f", ("g", 0), sized(198)), A)
        completion = Completion(PathOrder(signature("a b f g")), given)
        completion.run(2)
        self.assertEqual((len(completion.waiting()), completion.lost()), (1, 0))

    def test_overlaps_with_many_variables(self):
        # Each overlap of the rule with itself has a variable more than the rule for each entry of k.
        few = "f(f(x0, k(x1, x2, x3)), k(x4, x5, x6)) = f(x0, m(k(x1, x2, x3), k(x4, x5, x6)))"
        many = "f(f(x0, k(x1, x2, g(x3))), k(x4, x5, g(x6))) = f(x0, m(k(x1, x2, g(x3)), k(x4, x5, g(x6))))"
        more = ("f(f(x0, k(x1, x2, k(x3, x4, a))), k(x5, x6, k(x7, x8, a))) = "
                "f(x0, m(k(x1, x2, k(x3, x4, a)), k(x5, x6, k(x7, x8, a))))")
        for text, waiting, lost in [(few, 1, 0), (many, 1, 0), (more, 0, 1)]:
            completion = path_completion("a g m k f", text)
            completion.step()
            self.assertEqual((len(completion.rules()), len(completion.waiting()), completion.lost()), (1, waiting, lost))
        self.assertEqual((completion.step(), completion.lost()), ("stuck", 1))
        for text, waiting, lost in [("h(k(k(x0, x1, x2), x3, x4)) = g(k(k(x0, x1, x2), x3, x4))", 1, 0),
                                    ("h(k(k(x0, x1, x2), x3, g(x4))) = g(k(k(x0, x1, x2), x3, x4))", 1, 0),
                                    ("h(k(k(x0, x1, x2), x3, m(x4, x5))) = g(k(k(x0, x1, x2), x3, m(x4, x5)))", 0, 1)]:
            completion = path_completion("a g m k h f", text, "f(h(x0), k(k(x1, x2, x3), x4, x5)) = m(x0, k(k(x1, x2, x3), x4, x5))")
            completion.run(2)
            self.assertEqual((len(completion.rules()), len(completion.waiting()), completion.lost()), (2, waiting, lost))

    def test_step_by_step_and_run(self):
        for count in (0, 1, 2, 3, 7, 20, 60, 200):
            one = Completion(PathOrder(group_signature()), rules_of(*GROUP))
            other = Completion(PathOrder(group_signature()), rules_of(*GROUP))
            for _ in range(count):
                self.assertEqual(one.step(), one.status())
            self.assertEqual(other.run(count), one.status())
            self.assertEqual(state(one), state(other))

    def test_against_plain_completion(self):
        counts = {"running": 0, "stuck": 0, "complete": 0}
        for seed in range(25):
            rng = seeded(seed)
            given = random_equations(rng, rng.randrange(5))
            before = copy.deepcopy(given)
            for order in random_orders(rng):
                counts[self.compare(order, given)] += 1
            self.assertEqual(given, before)
        self.assertGreater(min(counts["stuck"], counts["complete"]), 10)

    def compare(self, order, given):
        """Compare each step with the plain completion, and check all derivations at the end."""
        one, other = Completion(order, given), PlainCompletion(order, given)
        for _ in range(25):
            plain = (other.status, other.equations(other.rules), other.equations(other.in_order()),
                     other.equations(other.aside), other.lost)
            self.assertEqual(state(one), plain)
            if one.status() != "running" or len(one.waiting()) > 60:
                break
            self.assertEqual(one.step(), other.step())
        for k, rule in enumerate(one.rules()):
            self.assertTrue(order.greater(*rule))
            check_derivation(self, given, *rule, one.derivation(k))
        return one.status()


class CheckTest(unittest.TestCase):
    def test_what_is_set_aside_waits_again(self):
        # h(f(x0, x1)) goes to a only when the last rule is there; then both sides do.
        completion = path_completion("a g f h", "f(x0, x1) = f(x1, x0)", "g(f(x0, g(x1))) = a", "f(x2, x3) = g(g(g(g(a))))")
        completion.step()
        self.assertEqual(written(completion.aside()), ["f(x0, x1) = f(x1, x0)"])
        while completion.waiting():
            self.assertEqual(completion.status(), "running")
            completion.step()
        self.assertEqual(len(completion.aside()), 1)
        rules = completion.rules()
        self.assertEqual(completion.step(), "running")
        self.assertEqual((completion.aside(), written(completion.waiting())), ([], ["f(x0, x1) = f(x1, x0)"]))
        self.assertEqual(completion.rules(), rules)
        self.assertEqual(completion.run(9), "complete")

    def test_one_side_that_changed_is_enough(self):
        for text in ("g(x0) = h(x1)", "h(x0) = g(x1)"):
            completion = path_completion("b g h", text, "h(x0) = g(g(g(b)))")
            completion.run(2)
            self.assertEqual(written(completion.rules()), ["h(x0) = g(g(g(b)))"])
            self.assertEqual((completion.waiting(), completion.aside()), ([], [eq(text)]))
            self.assertEqual(completion.step(), "running")
            self.assertEqual((completion.waiting(), completion.aside()), ([eq(text)], []))
            completion.step()
            self.assertEqual(len(completion.aside()), 1)
            self.assertEqual(completion.step(), "stuck")

    def test_some_stay_aside(self):
        completion = path_completion("a g h f", "f(x0, x1) = f(x1, x0)", "g(x0) = g(x1)",
                                     "h(f(g(x0), g(g(x1)))) = h(f(g(x1), g(x0)))", "g(f(x0, x1)) = a")
        completion.run(3)
        aside = completion.aside()
        self.assertEqual(written(aside)[:2], ["g(x0) = g(x1)", "f(x0, x1) = f(x1, x0)"])
        completion.run(50)
        self.assertEqual(completion.status(), "stuck")
        self.assertEqual(completion.aside()[:2], aside[:2])

    def test_nothing_happens_after_the_status_is_decided(self):
        for completion in [path_completion("a g", "g(x0) = x0"), path_completion("f", "f(x0, x1) = f(x1, x0)"),
                           path_completion("a"), complete_group()[2]]:
            completion.run(200)
            before = state(completion)
            self.assertIn(before[0], ("complete", "stuck"))
            for _ in range(3):
                self.assertEqual(completion.step(), before[0])
                self.assertEqual(completion.run(5), before[0])
                self.assertEqual(state(completion), before)

    def test_overlaps_and_given_equations_that_do_not_join(self):
        for clear_at in range(1, 12):
            one = Completion(PathOrder(group_signature()), rules_of(*GROUP))
            other = PlainCompletion(PathOrder(group_signature()), rules_of(*GROUP))
            for number in range(60):
                if number == clear_at:
                    # What waits is taken away, so that only the check can find it again.
                    one._queue.clear()
                    other.waiting.clear()
                self.assertEqual(one.step(), other.step())
                self.assertEqual((one.rules(), one.waiting()), (other.equations(other.rules),
                                                                other.equations(other.in_order())))
                if number == clear_at:
                    self.assertTrue(one.waiting())
            one.run(200)
            self.assertEqual(one.status(), "complete")
            for left, right in rules_of(*GROUP):
                check_derivation(self, rules_of(*GROUP), left, right, one.derive(left, right))

    def test_errors_in_the_check(self):
        # Taken as a rule the equation would be simplified; so what waits is taken away.
        for sides in [(LONG, B), (B, LONG), (LONG, LONG), (A, LONG)]:
            completion = Completion(PathOrder(signature("a b g f h")), [*rules_of(*COUNT), sides])
            completion.run(2)
            self.assertEqual((completion.waiting(), completion.lost()), ([sides], 0))
            completion._queue.clear()
            self.assertEqual((completion.step(), completion.lost()), ("stuck", 1))
            completion = Completion(PathOrder(signature("a b g f h")), [*rules_of(*COUNT), sides])
            self.assertEqual((completion.run(9), completion.lost()), ("stuck", 0))
            self.assertEqual(completion.aside(), [sides])

    def test_overlaps_that_are_lost_in_the_check(self):
        given = [*rules_of(*COUNT, "h(m(x0, x1)) = f(x0, x1)"), (("m", tower("g", 10, A), B), A)]
        completion = Completion(PathOrder(signature("a b g f m h")), given)
        completion.run(4)
        self.assertCountEqual(completion.rules(), given)
        self.assertEqual(completion.waiting(), [(("h", A), LONG)])
        completion._queue.clear()
        self.assertEqual((completion.step(), completion.lost()), ("stuck", 1))
        completion = Completion(PathOrder(signature("a b g f m h")), given)
        self.assertEqual((completion.run(9), completion.lost()), ("stuck", 0))
        self.assertEqual(completion.aside(), [(("h", A), LONG)])


class DeriveTest(unittest.TestCase):
    def test_groups(self):
        names, given, completion = complete_group()
        self.assertEqual(completion.status(), "complete")
        for k, (left, right) in enumerate(completion.rules()):
            stages = completion.derivation(k)
            check_derivation(self, given, left, right, stages)
            steps = flatten(stages, 10000)
            self.assertEqual(len(steps), flat_length(stages))
            self.assertEqual(visited(given, [], left, steps)[-1], right)
        for text in ["i(i(x5)) = x5", "i(f(x9, x19)) = f(i(x19), i(x9))", "f(x0, e) = f(e, x0)", "x3 = x3",
                     "f(f(x0, i(x1)), x1) = f(x0, e)", "i(e) = f(e, f(e, e))"]:
            left, right = eq(text)
            check_derivation(self, given, left, right, completion.derive(left, right))
            check_derivation(self, given, right, left, completion.derive(right, left))
        for text in ["f(x0, x1) = f(x1, x0)", "x0 = x1", "i(x0) = x0", "e = x0"]:
            self.assertIsNone(completion.derive(*eq(text)))

    def test_everything_joins_in_complete_systems(self):
        systems = [("a b c f", "f(f(x0, x1), x2) = f(x0, f(x1, x2))", "f(a, x0) = x0", "f(x0, a) = x0"),
                   ("f", "f(x0, x0) = x0"), ("g", "g(g(x0)) = x0"), ("a g f", "f(g(x0), g(x1)) = g(f(x0, x1))"),
                   ("f", "f(f(x0, x1), f(x1, x2)) = x1"), ("a b g h", "g(h(x0)) = h(g(x0))", "g(g(x0)) = a")]
        for names, *texts in systems:
            given = rules_of(*texts)
            completion = Completion(PathOrder(signature(names)), given)
            self.assertEqual(completion.run(100), "complete", texts)
            self.check_complete(given, completion)
        self.check_complete(*complete_group()[1:])

    def check_complete(self, given, completion):
        rules = completion.rules()
        self.assertEqual((completion.waiting(), completion.aside(), completion.lost()), ([], [], 0))
        pairs = given + [row[4:6] for row in overlaps(rules)]
        for left, right in pairs:
            self.assertIsNotNone(join(rules, left, right))
            check_derivation(self, given, left, right, completion.derive(left, right))

    def test_each_order(self):
        given = rules_of("f(x0, a) = x0", "f(x0, g(x1)) = g(f(x0, x1))", "g(g(g(x0))) = g(x0)")
        names = signature("a f g")
        orders = [PathOrder(names), WeightOrder(names, {"a": 1, "g": 0, "f": 2}, 1),
                  PolynomialOrder(names, {"a": [1], "g": [1, 1], "f": [0, 1, 2]})]
        for order in orders:
            completion = Completion(order, given)
            self.assertIn(completion.run(100), ("complete", "stuck"))
            self.assertTrue(completion.rules())
            for k, (left, right) in enumerate(completion.rules()):
                self.assertTrue(order.greater(left, right))
                check_derivation(self, given, left, right, completion.derivation(k))
            for left, right in given:
                check_derivation(self, given, left, right, completion.derive(left, right))

    def test_running_and_stuck(self):
        given = rules_of(*GROUP, "f(x0, x1) = f(x1, x0)")
        completion = Completion(PathOrder(group_signature()), given)
        self.assertIsNone(completion.derive(t("f(e, e)"), t("e")))
        check_derivation(self, given, A, A, completion.derive(A, A))
        completion.run(4)
        self.assertEqual(completion.status(), "running")
        check_derivation(self, given, t("f(e, e)"), t("e"), completion.derive(t("f(e, e)"), t("e")))
        self.assertEqual(completion.run(200), "stuck")
        check_derivation(self, given, t("i(i(x0))"), 0, completion.derive(t("i(i(x0))"), 0))
        self.assertIsNone(completion.derive(*eq("f(x0, x1) = f(x1, x0)")))

    def test_errors_left_before_right(self):
        completion = Completion(PathOrder(signature("a b g f m h")), rules_of(*COUNT, "h(x0) = m(x0, x0)"))
        self.assertEqual(completion.run(9), "complete")
        large = tower("h", 9, A)
        for left, right, error in [(LONG, large, StepLimit), (large, LONG, TooLarge), (A, LONG, StepLimit),
                                   (LONG, A, StepLimit), (A, large, TooLarge), (large, large, TooLarge)]:
            for kind in (error, HallError, ValueError):
                with self.assertRaises(kind):
                    completion.derive(left, right)
        before = state(completion)
        self.assertIsNone(completion.derive(A, B))
        self.assertEqual(state(completion), before)

    def test_equal_terms(self):
        completion = path_completion("a g", "g(x0) = x0")
        for term in (0, 19, A, t("f(x3, h(x1))")):
            self.assertEqual(completion.derive(term, term), [(term, term, [])])

    def test_more_variables_than_rules_can_have(self):
        # Such equations are beyond the document; their overlaps are lost, and all that is derived follows.
        term = ("k", ("k", 0, 1, 2), ("k", 3, 4, 5), ("k", 6, 7, ("f", 8, 9)))
        given = [(("f", ("f", term, 10), 11), ("k", 11, 10, 0)), eq("f(x0, k(x1, x2, x3)) = g(x1)")]
        completion = Completion(PathOrder(signature("a g k f")), given)
        completion.run(2)
        # There are three overlaps into the large rule, and one of the large rule into the other one.
        self.assertEqual((len(completion.rules()), completion.waiting(), completion.lost()), (2, [], 4))
        for k, rule in enumerate(completion.rules()):
            check_derivation(self, given, *rule, completion.derivation(k))
        self.assertEqual(completion.run(9), "stuck")

    def test_long_derivations(self):
        given = rules_of("f(g(x0), x1) = f(x0, f(x0, x1))", "f(a, x0) = x0")
        completion = Completion(PathOrder(signature("a b g f")), given)
        self.assertEqual(completion.run(50), "complete")
        left, right = ("f", tower("g", 8, A), B), ("f", tower("g", 7, A), B)
        stages = completion.derive(left, right)
        self.assertGreater(flat_length(stages), 500)
        check_derivation(self, given, left, right, stages)
        self.assertEqual(visited(given, [], left, flatten(stages, 10000))[-1], right)


if __name__ == "__main__":
    unittest.main()
