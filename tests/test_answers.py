import copy
import unittest

from completion_checks import GROUP, group_signature, small_equations
from helpers import A, B, eq, rules_of, seeded, signature, t, tower
from joinedends.answers import answer, is_sound
from joinedends.completion import Completion
from joinedends.certificates import make_certificate
from joinedends.ground import Closure
from joinedends.models import find_model
from joinedends.pathorder import PathOrder

COUNT = ["f(a, x0) = x0", "f(g(x0), x1) = f(x0, f(x0, x1))"]
LONG = ("f", tower("g", 10, A), B)
# A complete system that no model of at most two elements tells from g(x0) = x0.
THREE = ["g(g(g(x0))) = x0"]


def ask(test, names, given, asked, **limits):
    """The answer; it is looked at whether it is sound and whether the arguments are as before."""
    names = signature(names) if isinstance(names, str) else names
    given = rules_of(*given)
    left, right = eq(asked) if isinstance(asked, str) else asked
    before = copy.deepcopy(given)
    found = answer(names, given, left, right, **limits)
    test.assertIsInstance(found, tuple)
    test.assertIs(is_sound(names, given, left, right, found), True)
    test.assertEqual(given, before)
    return found


class AnswerTest(unittest.TestCase):
    def test_equal_sides(self):
        for text in ("a = a", "x0 = x0", "f(x3, g(a)) = f(x3, g(a))"):
            for given in ([], ["a = b"], ["f(x0, x1) = f(x1, x0)"]):
                side = eq(text)[0]
                found = ask(self, "a b g f", given, text, steps=0, max_size=0, max_models=0)
                self.assertEqual(found, ("same", [(side, side, [])]))
        # The normal form of this term takes too many steps.
        found = ask(self, "a b g f", COUNT, (LONG, LONG))
        self.assertEqual(found, ("same", [(LONG, LONG, [])]))

    def test_ground_questions(self):
        for given, asked, word in [([], "a = b", "apart"), (["a = b"], "b = a", "same"), (["a = b"], "g(a) = g(b)", "same"),
                                   (["g(g(g(a))) = a", "g(g(a)) = a"], "g(a) = a", "same"), (["a = g(b)"], "a = b", "apart"),
                                   (["g(g(g(a))) = a"], "g(a) = a", "apart"), (["f(a, b) = f(b, a)"], "f(b, a) = f(a, b)", "same"),
                                   (["f(a, b) = f(b, a)"], "f(b, b) = f(a, b)", "apart")]:
            wanted = None
            for limits in [{}, {"steps": 0, "max_size": 0, "max_models": 0}, {"max_size": 4}, {"steps": 200, "max_size": 1}]:
                found = ask(self, "a b g f", given, asked, **limits)
                self.assertEqual(found[0], word)
                wanted = wanted or found
                self.assertEqual(found, wanted)
            left, right = eq(asked)
            closure = Closure(rules_of(*given), [left, right])
            if word == "apart":
                self.assertEqual(found, ("apart", closure.model(signature("a b g f"))))
            else:
                self.assertEqual(found, ("same", closure.derivation(left, right)))

    def test_variables_on_one_side_only(self):
        # One variable, in a given equation or in the question, and it is no ground question.
        self.assertEqual(ask(self, "a b g", ["a = b"], "g(x0) = b", steps=0, max_size=0), ("open",))
        self.assertEqual(ask(self, "a b g", ["a = b"], "b = g(x0)", steps=0, max_size=0), ("open",))
        self.assertEqual(ask(self, "a b g", ["a = b", "g(x0) = g(x0)"], "a = b", steps=0, max_size=0), ("open",))
        self.assertEqual(ask(self, "a b g", ["a = b"], "a = b", steps=0, max_size=0)[0], "same")

    def test_what_completion_derives(self):
        found = ask(self, group_signature(), GROUP, "i(i(x0)) = x0", steps=200)
        completion = Completion(PathOrder(group_signature()), rules_of(*GROUP))
        completion.run(200)
        self.assertEqual(found, ("same", completion.derive(*eq("i(i(x0)) = x0"))))
        # As many steps as are allowed, and no more.
        word = {steps: ask(self, group_signature(), GROUP, "i(i(x0)) = x0", steps=steps, max_size=0)[0] for steps in range(90)}
        least = min(steps for steps in word if word[steps] == "same")
        completion = Completion(PathOrder(group_signature()), rules_of(*GROUP))
        completion.run(least - 1)
        self.assertIsNone(completion.derive(*eq("i(i(x0)) = x0")))
        completion.step()
        self.assertIsNotNone(completion.derive(*eq("i(i(x0)) = x0")))
        self.assertEqual(word[least - 1], "open")

    def test_thirty_steps_if_the_limit_is_left_out(self):
        # Each equation takes one step, and the last one is the largest.
        for count, word in [(28, "same"), (29, "same"), (30, "open"), (35, "open")]:
            given = ["a = a"] * count + ["g(x0) = x0"]
            self.assertEqual(ask(self, "a g", given, "g(g(x0)) = x0")[0], word)
            self.assertEqual(ask(self, "a g", given, "g(g(x0)) = x0", steps=count + 1)[0], "same")
            self.assertEqual(ask(self, "a g", given, "g(g(x0)) = x0", steps=count)[0], "open")

    def test_derivations_of_running_and_stuck_completions(self):
        self.assertEqual(ask(self, "a g f", ["f(x0, x1) = f(x1, x0)", "g(x0) = x0"], "f(g(x0), a) = f(x0, g(a))")[0], "same")
        self.assertEqual(ask(self, "a g f", ["f(x0, x1) = f(x1, x0)"], "f(x0, a) = f(a, x0)"), ("open",))

    def test_the_first_model(self):
        for given, asked in [([], "f(x0, x1) = f(x1, x0)"), (["f(x0, x1) = f(x1, x0)"], "f(x0, x0) = x0"),
                             (["f(f(x0, x1), x2) = f(x0, f(x1, x2))"], "f(x0, x1) = x0")]:
            found = ask(self, "a f", given, asked)
            self.assertEqual(found, ("apart", find_model(signature("a f"), rules_of(*given), *eq(asked))))
        found = ask(self, "g", THREE, "g(x0) = x0", max_size=3)
        self.assertEqual(found, ("apart", (3, {"g": {(0,): 1, (1,): 2}})))

    def test_the_limits_of_the_search(self):
        asked = "f(x0, x1) = f(x1, x0)"
        for limits, word in [({}, "apart"), ({"max_size": 1}, "parted"), ({"max_size": 0}, "parted"),
                             ({"max_models": 15}, "parted"), ({"max_models": 16}, "apart"), ({"max_models": 0}, "parted"),
                             ({"steps": 0}, "apart"), ({"steps": 0, "max_size": 0}, "open"),
                             ({"steps": 0, "max_models": 0}, "open"), ({"steps": 1, "max_models": 15}, "parted")]:
            self.assertEqual(ask(self, "f", [], asked, **limits)[0], word, limits)
        # 2 ** 9 is above the 500 that stand for a limit left out, and sizes above 2 are not looked at.
        self.assertEqual(ask(self, "a f m", ["x0 = x0"], "f(x0, x1) = m(x0, x1)")[0], "parted")
        self.assertEqual(ask(self, "a f m", ["x0 = x0"], "f(x0, x1) = m(x0, x1)", max_models=512)[0], "apart")
        self.assertEqual(ask(self, "g", THREE, "g(x0) = x0")[0], "parted")

    def test_parted(self):
        found = ask(self, "g", THREE, "g(x0) = x0")
        completion = Completion(PathOrder(signature("g")), rules_of(*THREE))
        completion.run(30)
        self.assertEqual(found, ("parted", make_certificate(signature("g"), rules_of(*THREE), completion)))
        # The completion takes two steps.
        for steps, word in [(0, "open"), (1, "open"), (2, "parted"), (200, "parted")]:
            self.assertEqual(ask(self, "g", THREE, "g(x0) = x0", steps=steps)[0], word)

    def test_open(self):
        comm = ["f(x0, x1) = f(x1, x0)", "g(g(g(x0))) = x0"]
        self.assertEqual(ask(self, "a f g", comm, "g(x0) = x0"), ("open",))
        self.assertEqual(ask(self, "a g f", [], "f(x0, a) = a", steps=0, max_size=0, max_models=0), ("open",))
        # The normal form of the question takes too many steps: no derivation, and not parted.
        self.assertEqual(ask(self, "a b g f", COUNT, (LONG, ("g", 0)), max_size=0), ("open",))
        self.assertEqual(ask(self, "a b g f", COUNT, (("g", 0), LONG), max_size=0), ("open",))
        self.assertEqual(ask(self, "a b g f", COUNT, (LONG, ("g", 0)))[0], "apart")

    def test_answers_are_new(self):
        names, given = signature("g"), rules_of(*THREE)
        for left, right in [eq("g(x0) = x0"), eq("g(g(g(g(x0)))) = g(x0)"), eq("g(x0) = g(x1)")]:
            first = answer(names, given, left, right)
            kept = copy.deepcopy(first)
            part = first[1]
            if first[0] == "same":
                part[0][2].clear()
            elif first[0] == "apart":
                part[1].clear()
            else:
                part[0].clear()
            self.assertEqual(answer(names, given, left, right), kept)
        self.assertEqual(given, rules_of(*THREE))

    def test_random_questions(self):
        names = signature("a g f")
        counts = {"same": 0, "apart": 0, "parted": 0, "open": 0}
        for seed in range(60):
            rng = seeded(seed)
            given = small_equations(rng, rng.randrange(4))
            for left, right in small_equations(rng, 5) + given:
                max_size = rng.choice([0, 2])
                found = answer(names, given, left, right, max_size=max_size)
                counts[found[0]] += 1
                self.assertTrue(is_sound(names, given, left, right, found))
                other = answer(names, given, left, right, max_size=2 - max_size)
                self.assertFalse({found[0], other[0]} in ({"same", "apart"}, {"same", "parted"}))
        self.assertGreater(min(counts["same"], counts["apart"], counts["parted"]), 20)


class SoundTest(unittest.TestCase):
    def setUp(self):
        self.names = signature("a b g")
        self.given = rules_of("g(g(g(x0))) = x0", "a = b")
        self.same = answer(self.names, self.given, *eq("g(g(g(a))) = b"))
        self.apart = answer(self.names, self.given, *eq("x0 = a"))
        self.parted = answer(self.names, self.given, *eq("g(x0) = x0"))
        self.assertEqual([found[0] for found in (self.same, self.apart, self.parted)], ["same", "apart", "parted"])

    def sound(self, text, found, given=None):
        left, right = eq(text)
        before = copy.deepcopy(found)
        is_right = is_sound(self.names, self.given if given is None else given, left, right, found)
        self.assertIsInstance(is_right, bool)
        self.assertEqual(found, before)
        return is_right

    def test_open(self):
        for text in ("a = b", "a = a", "g(x0) = x0", "x0 = a"):
            self.assertIs(self.sound(text, ("open",)), True)
            self.assertIs(self.sound(text, ("open",), []), True)

    def test_same(self):
        stages = self.same[1]
        self.assertTrue(self.sound("g(g(g(a))) = b", self.same))
        for text in ("b = g(g(g(a)))", "g(g(g(a))) = a", "g(g(g(b))) = a", "a = b", "g(x0) = x0"):
            self.assertFalse(self.sound(text, self.same))
        for given in ([], self.given[:1], self.given[1:], self.given[::-1], rules_of("g(g(x0)) = x0", "a = b")):
            self.assertFalse(self.sound("g(g(g(a))) = b", self.same, given))
        left, right, steps = stages[-1]
        for wrong in [[], stages[:-1], stages + [(left, right, [])], stages[:-1] + [(left, right, steps[:-1])],
                      stages[:-1] + [(right, left, steps)], stages[:-1] + [(left, right, steps[1:])],
                      stages[:-1] + [(left, right, [(step[0], not step[1], *step[2:]) for step in steps])]]:
            self.assertFalse(self.sound("g(g(g(a))) = b", ("same", wrong)))
        self.assertTrue(self.sound("g(x0) = g(x0)", ("same", [(t("g(x0)"), t("g(x0)"), [])]), []))

    def test_apart(self):
        self.assertTrue(self.sound("x0 = a", self.apart))
        for text in ("a = b", "b = a", "g(g(g(a))) = a", "x0 = x0"):
            self.assertFalse(self.sound(text, self.apart))
        self.assertFalse(self.sound("x0 = a", self.apart, self.given + rules_of("x0 = x1")))
        self.assertTrue(self.sound("x0 = a", self.apart, []))
        size, tables = self.apart[1]
        for model in [(0, tables), (1, tables), (-size, tables), (size, {}), (size, {**tables, "h": {}}),
                      (size, {**tables, "a": {(): 0}}), (size, {**tables, "a": {(): size}}), (size, {**tables, "g": {(): 1}}),
                      (size, {**tables, "g": {(size,): 1}}), (size, {"a": {}, "b": {(): 1}, "g": tables["g"]})]:
            self.assertFalse(self.sound("x0 = a", ("apart", model)), model)
        self.assertFalse(self.sound("x0 = a", ("apart", (1, {"a": {}, "b": {}, "g": {}}))))

    def test_parted(self):
        self.assertTrue(self.sound("g(x0) = x0", self.parted))
        self.assertTrue(self.sound("g(x0) = g(x1)", self.parted))
        self.assertTrue(self.sound("g(a) = a", self.parted))
        # Normal forms that are equal.
        for text in ("a = b", "x0 = x0", "g(g(g(g(a)))) = g(b)", "g(g(g(x0))) = x0"):
            self.assertFalse(self.sound(text, self.parted))
        # Other given equations: one without a cover, and one that the covers do not fit.
        for given in (self.given + rules_of("g(a) = a"), self.given[:1], [], self.given[::-1], rules_of("g(g(x0)) = x0", "a = b"),
                      self.given + rules_of("x0 = x0")):
            self.assertFalse(self.sound("g(x0) = x0", self.parted, given))
        certificate = self.parted[1]
        for at, wrong in [(0, certificate[0][:1]), (1, ("weight", {}, 1)), (2, [None, None]), (3, []), (4, [[], []]), (5, [])]:
            spoilt = certificate[:at] + (wrong,) + certificate[at + 1:]
            self.assertFalse(self.sound("g(x0) = x0", ("parted", spoilt)), at)

    def test_parted_with_errors(self):
        names, given = signature("a b g f"), rules_of(*COUNT)
        completion = Completion(PathOrder(names), given)
        completion.run(9)
        found = ("parted", make_certificate(names, given, completion))
        self.assertTrue(is_sound(names, given, A, B, found))
        self.assertFalse(is_sound(names, given, LONG, A, found))
        self.assertFalse(is_sound(names, given, A, LONG, found))
        short = ("f", tower("g", 6, A), B)
        self.assertTrue(is_sound(names, given, short, A, found))
        self.assertFalse(is_sound(names, given, short, B, found))


if __name__ == "__main__":
    unittest.main()
