import copy
import unittest

from completion_checks import small_equations
from helpers import A, B, eq, seeded, signature, sized, t, tower
from joinedends.answers import answer, is_sound
from joinedends.errors import HallError, NotFound, TooLarge, UnknownName, WrongArity
from joinedends.theory import Theory


def theory_of(names, *texts):
    result = Theory(signature(names))
    for text in texts:
        result.add(*eq(text))
    return result


def state(theory):
    return theory.given(), theory.sources(), theory.kept(), [theory.rests_on(*question) for question in theory.kept()]


class EquationsTest(unittest.TestCase):
    def test_numbers(self):
        theory = Theory(signature("a b g"))
        self.assertEqual((theory.given(), theory.sources(), theory.kept()), ([], [], []))
        texts = ["a = b", "g(x3) = x3", "a = b"]
        self.assertEqual([theory.add(*eq(text)) for text in texts], [0, 1, 2])
        self.assertEqual((theory.given(), theory.sources()), ([eq(text) for text in texts], [0, 1, 2]))
        self.assertEqual(theory.drop(1), eq("g(x3) = x3"))
        self.assertEqual((theory.given(), theory.sources()), (2 * [eq("a = b")], [0, 2]))
        self.assertEqual(theory.drop(2), eq("a = b"))
        self.assertEqual(theory.add(*eq("g(a) = x9")), 3)
        self.assertEqual(theory.drop(0), eq("a = b"))
        self.assertEqual((theory.given(), theory.sources()), ([eq("g(a) = x9")], [3]))
        self.assertEqual(theory.drop(3), eq("g(a) = x9"))
        self.assertEqual((theory.add(A, B), theory.sources()), (4, [4]))

    def test_equation(self):
        theory = theory_of("a b g", "a = b", "g(x7) = x2")
        self.assertEqual((theory.equation(0), theory.equation(1)), (eq("a = b"), eq("g(x7) = x2")))
        theory.drop(0)
        self.assertEqual(theory.equation(1), eq("g(x7) = x2"))

    def test_not_found(self):
        theory = theory_of("a b g", "a = b", "g(x0) = x0", "g(a) = b")
        theory.drop(1)
        theory.ask(A, B)
        before = state(theory)
        for number in (1, 3, 4, -1, -2, -3, 1000):
            for call in (theory.drop, theory.equation):
                for error in (NotFound, HallError, ValueError):
                    with self.assertRaises(error):
                        call(number)
        self.assertEqual(state(theory), before)
        self.assertEqual(theory.add(A, A), 3)

    def test_errors_of_add_and_ask(self):
        theory = theory_of("a b g f", "a = b")
        theory.ask(A, B)
        before = state(theory)
        unknown, wide, large, deep = t("h(a)"), ("g", A, A), ("f", sized(200), sized(200)), tower("g", 30, A)
        for left, right, error, name in [
                (unknown, A, UnknownName, "h"), (A, unknown, UnknownName, "h"), (wide, A, WrongArity, "g"),
                (A, wide, WrongArity, "g"), (large, A, TooLarge, None), (A, deep, TooLarge, None), (deep, large, TooLarge, None),
                (unknown, wide, UnknownName, "h"), (wide, unknown, WrongArity, "g"), (large, unknown, TooLarge, None),
                (unknown, large, UnknownName, "h"), (large, wide, TooLarge, None), (("g", 10), A, TooLarge, None),
                (A, 10, TooLarge, None), (19, 19, TooLarge, None), (10, unknown, UnknownName, "h"), (10, wide, WrongArity, "g"),
                (("f", unknown, wide), A, UnknownName, "h"), (("f", wide, unknown), A, WrongArity, "g"),
                (("m", 0, 0), A, UnknownName, "m"), (("f", 0), A, WrongArity, "f"), (("a", 0), A, WrongArity, "a")]:
            for call in (theory.add, theory.ask):
                for kind in (error, HallError, ValueError):
                    with self.assertRaises(kind) as caught:
                        call(left, right)
                if name is not None:
                    self.assertEqual(caught.exception.name, name)
                self.assertIs(type(caught.exception), error)
        self.assertEqual(state(theory), before)
        self.assertEqual(theory.add(("g", 9), sized(400)), 1)
        self.assertEqual(theory.ask(9, 9)[0], "same")

    def test_the_signature_changed_afterwards(self):
        names = signature("a b")
        theory = Theory(names)
        names.declare("g", 1)
        for call in (theory.add, theory.ask):
            with self.assertRaises(UnknownName):
                call(t("g(a)"), A)
        self.assertEqual(theory.ask(A, B)[1], (2, {"a": {}, "b": {(): 1}}))

    def test_lists_are_new(self):
        theory = theory_of("a b", "a = b")
        theory.ask(A, B)
        before = copy.deepcopy(state(theory))
        for found in state(theory):
            found.clear()
        theory.rests_on(A, B).append(7)
        self.assertEqual(state(theory), before)


class AskTest(unittest.TestCase):
    def check(self, theory, names, text, word, rests=None, **limits):
        left, right = eq(text)
        found = theory.ask(left, right, **limits)
        self.assertEqual(found[0], word, text)
        self.assertTrue(is_sound(signature(names), theory.given(), left, right, found))
        if rests is not None:
            self.assertEqual(theory.rests_on(left, right), rests)
        return found

    def test_answers(self):
        theory = theory_of("a b g f", "f(x0, x1) = f(x1, x0)", "g(g(g(x0))) = x0", "a = b")
        for text in ("g(g(g(b))) = a", "f(x0, x0) = x0", "g(x0) = x0", "x0 = x0"):
            left, right = eq(text)
            for steps, max_size, max_models in [(0, 0, 0), (30, 2, 500), (3, 1, 5000)]:
                fresh = theory_of("a b g f", "f(x0, x1) = f(x1, x0)", "g(g(g(x0))) = x0", "a = b")
                limits = {"steps": steps, "max_size": max_size, "max_models": max_models}
                self.assertEqual(fresh.ask(left, right, **limits),
                                 answer(signature("a b g f"), theory.given(), left, right, **limits))
            self.assertEqual(theory.ask(left, right), answer(signature("a b g f"), theory.given(), left, right))

    def test_the_limits_left_out(self):
        theory = Theory(signature("a g"))
        for _ in range(29):
            theory.add(A, A)
        theory.add(*eq("g(x0) = x0"))
        self.assertEqual(theory.ask(*eq("g(g(x0)) = x0"))[0], "same")
        theory = Theory(signature("a g"))
        for _ in range(30):
            theory.add(A, A)
        theory.add(*eq("g(x0) = x0"))
        self.assertEqual(theory.ask(*eq("g(g(x0)) = x0"))[0], "open")
        theory = theory_of("a f m", "x0 = x0")
        self.assertEqual(theory.ask(*eq("f(x0, x1) = m(x0, x1)"))[0], "parted")
        theory = theory_of("g", "g(g(g(x0))) = x0")
        self.assertEqual(theory.ask(*eq("g(x0) = x0"))[0], "parted")

    def test_kept_answers_are_returned_whatever_the_limits(self):
        theory = theory_of("a b g", "g(g(g(x0))) = x0")
        questions = [eq("g(g(g(g(a)))) = g(a)"), eq("g(a) = b"), eq("g(x0) = x0")]
        first = [theory.ask(*question) for question in questions]
        self.assertEqual([found[0] for found in first], ["same", "apart", "parted"])
        for limits in [{"steps": 0, "max_size": 0, "max_models": 0}, {"steps": 200, "max_size": 4, "max_models": 5000}]:
            for question, found in zip(questions, first):
                self.assertEqual(theory.ask(*question, **limits), found)
        self.assertEqual(theory.kept(), questions)

    def test_open_is_not_kept(self):
        theory = theory_of("a b g", "g(g(g(x0))) = x0")
        question = eq("g(x0) = x0")
        self.assertEqual(theory.ask(*question, steps=0, max_size=0), ("open",))
        self.assertEqual(theory.kept(), [])
        with self.assertRaises(NotFound):
            theory.rests_on(*question)
        self.assertEqual(theory.ask(*question)[0], "parted")
        self.assertEqual(theory.kept(), [question])

    def test_questions_are_told_apart(self):
        theory = theory_of("a b g", "g(x0) = x0", "a = b")
        questions = [eq(text) for text in ("a = b", "b = a", "g(x0) = x0", "g(x1) = x1", "x0 = g(x0)")]
        for question in questions:
            theory.ask(*question)
        self.assertEqual(theory.kept(), questions)
        for question in [eq("g(a) = b"), eq("g(x2) = x2"), eq("a = a")]:
            for error in (NotFound, HallError, ValueError):
                with self.assertRaises(error):
                    theory.rests_on(*question)

    def test_rests_on(self):
        theory = theory_of("a b c g h f", "a = b", "g(x0) = x0", "b = c", "h(x0) = g(x0)")
        self.check(theory, "a b c g h f", "a = c", "same", [0, 2])
        self.check(theory, "a b c g h f", "h(x0) = x0", "same", [1, 3])
        self.check(theory, "a b c g h f", "f(x0, a) = f(x0, b)", "same", [0])
        self.check(theory, "a b c g h f", "x0 = x0", "same", [])
        self.check(theory, "a b c g h f", "f(x0, x1) = f(x1, x0)", "apart", [], max_models=5000)
        theory.drop(0)
        self.check(theory, "a b c g h f", "c = h(b)", "same", [1, 2, 3])

    def test_indexes_after_drops(self):
        names = "a b c g h"
        theory = theory_of(names, "g(x0) = x0", "a = b", "h(x0) = g(x0)", "b = c")
        first = self.check(theory, names, "a = c", "same", [1, 3])
        theory.drop(0)
        second = self.check(theory, names, "a = c", "same", [1, 3])
        self.assertNotEqual(first, second)
        theory.drop(2)
        self.check(theory, names, "a = c", "same", [1, 3])
        theory.add(*eq("c = g(c)"))
        third = self.check(theory, names, "a = c", "same", [1, 3])
        self.assertEqual([[step[1:] for step in stage[2]] for stage in third[1]],
                         [[step[1:] for step in stage[2]] for stage in first[1]])
        self.assertEqual(theory.sources(), [1, 3, 4])
        theory.drop(3)
        self.assertEqual(theory.kept(), [])
        self.check(theory, names, "a = c", "apart", [])

    def test_what_a_drop_forgets(self):
        theory = theory_of("a b g", "g(g(g(x0))) = x0", "a = b", "g(g(g(x0))) = x0")
        questions = [eq(text) for text in ("a = b", "g(g(g(x0))) = x0", "x0 = a", "g(x0) = x0", "x0 = x0")]
        words = [theory.ask(*question)[0] for question in questions]
        self.assertEqual(words, ["same", "same", "apart", "parted", "same"])
        rests = theory.rests_on(*questions[1])
        self.assertEqual(len(rests), 1)
        theory.drop(2 - rests[0])
        # "parted" is forgotten by any drop, "same" only by the drop of what it rests on.
        self.assertEqual(theory.kept(), questions[:3] + questions[4:])
        theory.drop(1)
        self.assertEqual(theory.kept(), [questions[1], questions[2], questions[4]])
        theory.drop(rests[0])
        self.assertEqual(theory.kept(), [questions[2], questions[4]])

    def test_what_an_addition_forgets(self):
        theory = theory_of("a b g", "g(g(g(x0))) = x0", "a = b")
        questions = [eq(text) for text in ("a = b", "x0 = a", "g(x0) = x0")]
        words = [theory.ask(*question)[0] for question in questions]
        self.assertEqual(words, ["same", "apart", "parted"])
        # It holds in the model and follows, but "parted" answers are forgotten by any addition.
        theory.add(B, A)
        self.assertEqual(theory.kept(), questions[:2])
        theory.ask(*questions[2])
        self.assertEqual(theory.kept(), questions)
        theory.add(*eq("x0 = x1"))
        self.assertEqual(theory.kept(), questions[:1])
        theory.drop(3)
        theory.ask(*questions[1])
        self.assertEqual(theory.kept(), questions[:2])
        theory.add(*eq("g(x0) = x0"))
        model = theory.ask(*questions[1])
        self.assertTrue(is_sound(signature("a b g"), theory.given(), *questions[1], model))

    def test_additions_with_many_assignments(self):
        for size, count, is_kept in [(2, 9, True), (2, 10, True), (3, 7, True), (3, 8, False), (4, 6, True), (4, 7, False),
                                     (28, 2, True), (28, 3, False)]:
            theory = Theory(signature("a f g"))
            # The closure has one class for each of the terms a, g(a), g(g(a)) ..
            found = theory.ask(tower("g", size - 1, A), A)
            self.assertEqual((found[0], found[1][0]), ("apart", size))
            term = 0
            for number in range(1, count):
                term = ("f", term, number)
            theory.add(term, term)
            self.assertIs(len(theory.kept()) == 1, is_kept, (size, count))

    def test_additions_to_large_models(self):
        for size, is_kept in [(64, True), (65, False)]:
            theory = Theory(signature("a f g"))
            for number in range(size - 20):
                term = ("f", tower("g", number % 20, A), tower("g", number // 20, A))
                theory.add(term, term)
            found = theory.ask(tower("g", 19, A), A)
            self.assertEqual((found[0], found[1][0]), ("apart", size))
            theory.add(*eq("f(x0, x1) = f(x0, x1)"))
            self.assertIs(len(theory.kept()) == 1, is_kept)

    def test_a_forgotten_question_comes_last(self):
        theory = theory_of("a b g", "a = b")
        questions = [eq("a = b"), eq("g(a) = g(b)"), eq("a = a")]
        for question in questions:
            theory.ask(*question)
        theory.ask(*questions[0])
        self.assertEqual(theory.kept(), questions)
        number = theory.add(A, B)
        theory.drop(0)
        self.assertEqual(theory.kept(), questions[2:])
        theory.ask(*questions[1])
        theory.ask(*questions[0])
        self.assertEqual(theory.kept(), [questions[2], questions[1], questions[0]])
        self.assertEqual(theory.rests_on(*questions[0]), [number])

    def test_changed_parts_of_answers(self):
        theory = theory_of("a b g", "g(g(g(x0))) = x0", "a = b")
        for text, word in [("a = b", "same"), ("x0 = a", "apart"), ("g(x0) = x0", "parted"), ("g(g(g(g(a)))) = g(b)", "same")]:
            first = self.check(theory, "a b g", text, word)
            kept = copy.deepcopy(first)
            for _ in range(2):
                self.spoil(theory.ask(*eq(text)))
                self.assertEqual(theory.ask(*eq(text)), kept)
            self.spoil(first)
            self.assertEqual(theory.ask(*eq(text)), kept)
        self.assertEqual(len(theory.kept()), 4)

    def spoil(self, value):
        """Change each list and dict in the value."""
        if isinstance(value, (list, tuple)):
            for part in value:
                self.spoil(part)
        if isinstance(value, dict):
            for part in list(value.values()):
                self.spoil(part)
            value.clear()
            value["spoilt"] = 1
        if isinstance(value, list):
            value.append("spoilt")

    def test_two_theories_in_turn(self):
        names = signature("a b g")
        one, other = Theory(names), Theory(names)
        one.add(A, B)
        self.assertEqual((one.ask(A, B)[0], other.ask(A, B)[0]), ("same", "apart"))
        other.add(*eq("g(x0) = g(x1)"))
        self.assertEqual((one.kept(), other.kept()), ([(A, B)], [(A, B)]))
        one.drop(0)
        self.assertEqual((one.kept(), other.kept()), ([], [(A, B)]))
        self.assertEqual((one.sources(), other.sources()), ([], [0]))
        self.assertEqual((one.add(A, A), other.add(A, A)), (1, 1))
        self.assertEqual((one.given(), other.given()), ([(A, A)], [eq("g(x0) = g(x1)"), (A, A)]))

    def test_random_calls_keep_sound_answers(self):
        names = signature("a g f")
        counts = {"same": 0, "apart": 0, "parted": 0, "open": 0}
        for seed in range(25):
            rng = seeded(seed)
            theory, pool = Theory(names), small_equations(rng, 8)
            equations = {}
            for _ in range(40):
                choice = rng.random()
                if choice < 0.2 and len(equations) < 5:
                    equation = rng.choice(pool)
                    equations[theory.add(*equation)] = equation
                elif choice < 0.35 and equations:
                    number = rng.choice(sorted(equations))
                    self.assertEqual(theory.drop(number), equations.pop(number))
                else:
                    theory.ask(*rng.choice(pool), max_size=rng.choice([0, 2]))
                self.assertEqual((theory.given(), theory.sources()), (list(equations.values()), sorted(equations)))
                for question in theory.kept():
                    found = theory.ask(*question, steps=0, max_size=0)
                    counts[found[0]] += 1
                    self.assertTrue(is_sound(names, theory.given(), *question, found))
                    self.assertLessEqual(set(theory.rests_on(*question)), set(equations))
        self.assertGreater(min(counts["same"], counts["apart"], counts["parted"]), 30)
        self.assertEqual(counts["open"], 0)


if __name__ == "__main__":
    unittest.main()
