import copy
import unittest

from completion_checks import small_equations
from helpers import A, B, eq, seeded, signature, sized, t
from joinedends.answers import answer, is_sound
from joinedends.errors import Cyclic, Duplicate, HallError, InvalidName, NotFound, TooLarge, UnknownName, WrongArity
from joinedends.hall import Hall
from joinedends.theory import Theory

NAMES = "a b c g h f"


def hall_of(names, theories, imports="", *texts):
    """A hall with theories, imports like "one>two" and equations like "one: a = b"."""
    result = Hall(signature(names))
    for name in theories.split():
        result.create(name)
    for pair in imports.split():
        result.include(*pair.split(">"))
    for text in texts:
        name, equation = text.split(": ")
        result.add(name, *eq(equation))
    return result


def state(hall):
    names = hall.theories()
    return (hall.written(), [hall.sources(name) for name in names], [hall.given(name) for name in names],
            [hall.kept(name) for name in names],
            [[hall.rests_on(name, *question) for question in hall.kept(name)] for name in names])


class TheoriesTest(unittest.TestCase):
    def test_create(self):
        hall = Hall(signature("a"))
        self.assertEqual(hall.theories(), [])
        for name in ("two", "a", "one", "abcdefgh"):
            self.assertIsNone(hall.create(name))
        self.assertEqual(hall.theories(), ["two", "a", "one", "abcdefgh"])
        self.assertEqual((hall.imports("one"), hall.reached("one"), hall.given("one"), hall.sources("one"), hall.kept("one")),
                         ([], ["one"], [], [], []))

    def test_errors_of_create(self):
        hall = hall_of("a", "one two")
        for name, error in [("", InvalidName), ("abcdefghi", InvalidName), ("One", InvalidName), ("a b", InvalidName),
                            ("x0", InvalidName), ("a_b", InvalidName), (" one", InvalidName), ("one", Duplicate),
                            ("two", Duplicate)]:
            for kind in (error, HallError, ValueError):
                with self.assertRaises(kind) as caught:
                    hall.create(name)
            self.assertIs(type(caught.exception), error)
        self.assertEqual(hall.theories(), ["one", "two"])

    def test_include(self):
        hall = hall_of("a", "one two three four")
        for name, other in [("three", "four"), ("three", "one"), ("one", "two"), ("three", "two")]:
            self.assertIsNone(hall.include(name, other))
        self.assertEqual([hall.imports(name) for name in hall.theories()], [["two"], [], ["four", "one", "two"], []])
        self.assertEqual([hall.reached(name) for name in hall.theories()],
                         [["one", "two"], ["two"], ["one", "two", "three", "four"], ["four"]])

    def test_errors_of_include(self):
        hall = hall_of("a", "one two three four five", "one>two two>three four>one")
        before = state(hall)
        for name, other, error in [
                ("none", "none", NotFound), ("one", "none", NotFound), ("none", "one", NotFound), ("", "one", NotFound),
                ("one", "one", Cyclic), ("five", "five", Cyclic), ("two", "one", Cyclic), ("three", "one", Cyclic),
                ("three", "four", Cyclic), ("two", "four", Cyclic), ("one", "two", Duplicate), ("four", "one", Duplicate)]:
            for kind in (error, HallError, ValueError):
                with self.assertRaises(kind) as caught:
                    hall.include(name, other)
            self.assertIs(type(caught.exception), error, (name, other))
        self.assertEqual(state(hall), before)
        # What is reached already, but not imported, may be imported.
        hall.include("four", "three")
        self.assertEqual((hall.imports("four"), hall.reached("four")), (["one", "three"], ["one", "two", "three", "four"]))

    def test_not_found_comes_first(self):
        hall = hall_of("a b", "one", "", "one: a = b")
        unknown = t("g(a)")
        before = state(hall)
        calls = [lambda: hall.imports("two"), lambda: hall.reached("two"), lambda: hall.add("two", A, B),
                 lambda: hall.add("two", unknown, 10), lambda: hall.drop("two", 0), lambda: hall.equation("two", 0),
                 lambda: hall.given("two"), lambda: hall.sources("two"), lambda: hall.ask("two", A, B),
                 lambda: hall.ask("two", unknown, 10), lambda: hall.ask("two", A, A, steps=0), lambda: hall.kept("two"),
                 lambda: hall.rests_on("two", A, B), lambda: hall.include("two", "two"), lambda: hall.kept("")]
        for call in calls:
            for error in (NotFound, HallError, ValueError):
                with self.assertRaises(error):
                    call()
        self.assertEqual(state(hall), before)

    def test_the_signature_changed_afterwards(self):
        names = signature("a b")
        hall = Hall(names)
        names.declare("g", 1)
        hall.create("one")
        for call in (hall.add, hall.ask):
            with self.assertRaises(UnknownName):
                call("one", t("g(a)"), A)
        self.assertEqual(hall.written(), ["operation a 0", "operation b 0", "theory one", "next one 0"])


class EquationsTest(unittest.TestCase):
    def test_given_and_sources_over_imports(self):
        hall = hall_of(NAMES, "one two three four", "three>one four>three four>one one>two", "three: a = c", "one: g(x0) = x0",
                       "two: a = b", "one: b = c", "three: h(x0) = a")
        self.assertEqual(hall.sources("two"), [("two", 0)])
        self.assertEqual(hall.sources("one"), [("one", 0), ("one", 1), ("two", 0)])
        everything = [("one", 0), ("one", 1), ("two", 0), ("three", 0), ("three", 1)]
        self.assertEqual((hall.sources("three"), hall.sources("four")), (everything, everything))
        self.assertEqual(hall.given("four"), [eq(text) for text in ("g(x0) = x0", "b = c", "a = b", "a = c", "h(x0) = a")])
        self.assertEqual(hall.given("two"), [eq("a = b")])

    def test_numbers(self):
        hall = hall_of(NAMES, "one two", "two>one")
        self.assertEqual([hall.add("one", A, B), hall.add("two", A, B), hall.add("one", B, A)], [0, 0, 1])
        self.assertEqual(hall.drop("one", 1), (B, A))
        self.assertEqual((hall.add("one", B, B), hall.drop("one", 0), hall.add("one", A, A)), (2, (A, B), 3))
        self.assertEqual(hall.sources("two"), [("one", 2), ("one", 3), ("two", 0)])
        self.assertEqual([hall.equation("one", 2), hall.equation("one", 3), hall.equation("two", 0)], [(B, B), (A, A), (A, B)])

    def test_equations_of_the_theory_itself(self):
        hall = hall_of(NAMES, "one two", "two>one", "one: a = b", "one: b = c", "two: a = a")
        before = state(hall)
        for number in (1, 2, -1):
            for call in (hall.drop, hall.equation):
                for error in (NotFound, HallError, ValueError):
                    with self.assertRaises(error):
                        call("two", number)
        self.assertEqual(state(hall), before)
        self.assertEqual(hall.drop("two", 0), (A, A))
        self.assertEqual(hall.given("two"), [eq("a = b"), eq("b = c")])

    def test_errors_of_add_and_ask(self):
        hall = hall_of("a b g f", "one two", "two>one", "one: a = b")
        hall.ask("two", A, B)
        before = state(hall)
        unknown, wide, large = t("h(a)"), ("g", A, A), ("f", sized(200), sized(200))
        for left, right, error in [(unknown, wide, UnknownName), (wide, unknown, WrongArity), (A, large, TooLarge),
                                   (large, unknown, TooLarge), (10, A, TooLarge), (A, ("g", 19), TooLarge), (10, wide, WrongArity)]:
            for call in (hall.add, hall.ask):
                for kind in (error, HallError, ValueError):
                    with self.assertRaises(kind) as caught:
                        call("one", left, right)
                self.assertIs(type(caught.exception), error)
        self.assertEqual(state(hall), before)

    def test_lists_are_new(self):
        hall = hall_of(NAMES, "one two", "two>one", "one: a = b")
        hall.ask("two", A, B)
        before = copy.deepcopy(state(hall))
        for found in (hall.theories(), hall.imports("two"), hall.reached("two"), hall.given("two"), hall.sources("two"),
                      hall.kept("two"), hall.rests_on("two", A, B), hall.written()):
            found.clear()
        self.assertEqual((state(hall), hall.imports("two"), hall.reached("two")), (before, ["one"], ["one", "two"]))


class AnswersTest(unittest.TestCase):
    def check(self, hall, names, name, text, word, rests=None, **limits):
        left, right = eq(text)
        found = hall.ask(name, left, right, **limits)
        self.assertEqual(found[0], word, (name, text))
        self.assertTrue(is_sound(signature(names), hall.given(name), left, right, found))
        if rests is not None:
            self.assertEqual(hall.rests_on(name, left, right), rests)
        return found

    def ask_everywhere(self, hall, *texts):
        for name in hall.theories():
            for text in texts:
                hall.ask(name, *eq(text))

    def kept(self, hall):
        return {name: len(hall.kept(name)) for name in hall.theories()}

    def test_answers_for_the_theories(self):
        hall = hall_of(NAMES, "one two three", "two>one", "one: a = b", "two: b = c")
        self.check(hall, NAMES, "one", "a = b", "same", [("one", 0)])
        self.check(hall, NAMES, "one", "a = c", "apart", [])
        self.check(hall, NAMES, "two", "a = c", "same", [("one", 0), ("two", 0)])
        self.check(hall, NAMES, "three", "a = b", "apart", [])
        self.assertEqual(hall.kept("one"), [eq("a = b"), eq("a = c")])
        self.assertEqual(hall.kept("two"), [eq("a = c")])
        for name, text in [("one", "b = a"), ("two", "a = b"), ("three", "a = c")]:
            for error in (NotFound, HallError):
                with self.assertRaises(error):
                    hall.rests_on(name, *eq(text))

    def test_answers_as_a_theory_gives_them(self):
        texts = ["f(x0, x1) = f(x1, x0)", "g(g(g(x0))) = x0", "a = b"]
        for limits in [{}, {"steps": 0, "max_size": 0, "max_models": 0}, {"steps": 5, "max_size": 1}, {"max_size": 3}]:
            for text in ("g(g(g(b))) = a", "f(x0, x0) = x0", "g(x0) = x0", "x0 = x0"):
                hall = hall_of("a b g f", "one", "", *[f"one: {row}" for row in texts])
                wanted = answer(signature("a b g f"), hall.given("one"), *eq(text), **limits)
                self.assertEqual(hall.ask("one", *eq(text), **limits), wanted)
                theory = Theory(signature("a b g f"))
                for row in texts:
                    theory.add(*eq(row))
                self.assertEqual(theory.ask(*eq(text), **limits), wanted)

    def test_the_limits_left_out(self):
        for count, word in [(29, "same"), (30, "open")]:
            hall = hall_of("a g", "one two", "one>two", *(count * ["two: a = a"]), "one: g(x0) = x0")
            self.assertEqual(hall.ask("one", *eq("g(g(x0)) = x0"))[0], word)
        hall = hall_of("a f m", "one")
        self.assertEqual(hall.ask("one", *eq("f(x0, x1) = m(x0, x1)"))[0], "parted")
        hall = hall_of("g", "one", "", "one: g(g(g(x0))) = x0")
        self.assertEqual(hall.ask("one", *eq("g(x0) = x0"))[0], "parted")

    def test_rests_on_in_the_order_of_the_sources(self):
        hall = hall_of(NAMES, "one two three", "one>two one>three three>two", "three: b = c", "two: g(c) = g(g(c))",
                       "one: h(x0) = h(x0)", "two: a = b", "one: h(a) = g(a)")
        self.check(hall, NAMES, "one", "h(c) = g(g(c))", "same", [("one", 1), ("two", 0), ("two", 1), ("three", 0)])
        self.check(hall, NAMES, "three", "g(a) = g(g(b))", "same", [("two", 0), ("two", 1), ("three", 0)])

    def test_indexes_change(self):
        hall = hall_of(NAMES, "one two three", "", "three: a = b", "two: b = c")
        hall.include("three", "two")
        first = self.check(hall, NAMES, "three", "a = c", "same", [("two", 0), ("three", 0)])
        hall.add("one", *eq("g(x0) = x0"))
        hall.include("three", "one")
        second = self.check(hall, NAMES, "three", "a = c", "same", [("two", 0), ("three", 0)])
        self.assertNotEqual(first, second)
        hall.add("two", *eq("h(x0) = x0"))
        self.check(hall, NAMES, "three", "a = c", "same", [("two", 0), ("three", 0)])
        hall.drop("one", 0)
        self.check(hall, NAMES, "three", "a = c", "same", [("two", 0), ("three", 0)])
        self.assertEqual(hall.kept("three"), [eq("a = c")])
        hall.drop("two", 0)
        self.assertEqual(hall.kept("three"), [])

    def test_adding_forgets_where_the_theory_is_reached(self):
        hall = hall_of(NAMES, "one two three four", "two>one three>two")
        self.ask_everywhere(hall, "a = b")
        self.assertEqual(self.kept(hall), {"one": 1, "two": 1, "three": 1, "four": 1})
        hall.add("two", A, B)
        self.assertEqual(self.kept(hall), {"one": 1, "two": 0, "three": 0, "four": 1})
        self.ask_everywhere(hall, "a = b")
        self.assertEqual([hall.ask(name, A, B)[0] for name in hall.theories()], ["apart", "same", "same", "apart"])
        # "same" answers stay, and so do models in which the equation holds.
        hall.add("one", *eq("g(x0) = g(x1)"))
        self.assertEqual(self.kept(hall), {"one": 1, "two": 1, "three": 1, "four": 1})
        hall.add("one", *eq("g(x0) = x1"))
        self.assertEqual(self.kept(hall), {"one": 0, "two": 1, "three": 1, "four": 1})

    def test_dropping_forgets_where_the_theory_is_reached(self):
        hall = hall_of(NAMES, "one two three four", "two>one three>two", "one: a = b", "two: a = b", "four: a = b", "two: c = c")
        self.ask_everywhere(hall, "a = b")
        self.assertEqual([hall.rests_on(name, A, B) for name in hall.theories()][0], [("one", 0)])
        rests = hall.rests_on("two", A, B)
        self.assertEqual(hall.rests_on("three", A, B), rests)
        hall.drop("two", 1)
        self.assertEqual(self.kept(hall), {"one": 1, "two": 1, "three": 1, "four": 1})
        hall.drop(*rests[0])
        self.assertEqual(self.kept(hall), {"one": 0 if rests[0][0] == "one" else 1, "two": 0, "three": 0, "four": 1})

    def test_numbers_of_different_theories_are_told_apart(self):
        hall = hall_of(NAMES, "one two", "two>one", "one: a = b", "two: b = c")
        hall.ask("two", A, B)
        self.assertEqual(hall.rests_on("two", A, B), [("one", 0)])
        hall.drop("two", 0)
        self.assertEqual(hall.kept("two"), [(A, B)])
        hall.drop("one", 0)
        self.assertEqual(hall.kept("two"), [])

    def test_parted_answers(self):
        hall = hall_of("a g", "one two three", "two>one", "one: g(g(g(x0))) = x0", "three: g(g(g(x0))) = x0")
        self.ask_everywhere(hall, "g(x0) = x0")
        self.assertEqual([hall.ask(name, *eq("g(x0) = x0"))[0] for name in hall.theories()], 3 * ["parted"])
        hall.add("two", A, A)
        self.assertEqual(self.kept(hall), {"one": 1, "two": 0, "three": 1})
        self.ask_everywhere(hall, "g(x0) = x0")
        hall.drop("two", 0)
        self.assertEqual(self.kept(hall), {"one": 1, "two": 0, "three": 1})
        self.ask_everywhere(hall, "g(x0) = x0")
        hall.add("one", A, A)
        self.assertEqual(self.kept(hall), {"one": 0, "two": 0, "three": 1})

    def test_importing_forgets_where_sources_are_new(self):
        hall = hall_of("a b g", "one two three four", "three>two four>two four>one", "one: a = b")
        for name in ("one", "two", "three", "four"):
            hall.ask(name, *eq("g(a) = b"))
        self.assertEqual([hall.ask(name, *eq("g(a) = b"))[0] for name in hall.theories()], 4 * ["apart"])
        words = {name: hall.ask(name, A, B)[0] for name in hall.theories()}
        self.assertEqual(words, {"one": "same", "two": "apart", "three": "apart", "four": "same"})
        self.assertEqual(self.kept(hall), {"one": 2, "two": 2, "three": 2, "four": 2})
        hall.include("two", "one")
        # In "two" and "three" the equation is new, and it does not hold in the models for a = b.
        self.assertNotIn((A, B), hall.kept("two") + hall.kept("three"))
        self.assertEqual((len(hall.kept("one")), len(hall.kept("four"))), (2, 2))
        self.assertEqual(hall.ask("three", A, B)[0], "same")

    def test_importing_what_is_reached_already_forgets_nothing(self):
        hall = hall_of("a g", "one two three", "two>one three>two", "one: g(g(g(x0))) = x0")
        self.ask_everywhere(hall, "g(x0) = x0", "g(g(g(a))) = a")
        hall.include("three", "one")
        self.assertEqual(self.kept(hall), {"one": 2, "two": 2, "three": 2})
        hall.create("four")
        hall.include("four", "three")
        self.assertEqual(self.kept(hall), {"one": 2, "two": 2, "three": 2, "four": 0})
        # An import of a theory without equations adds nothing, and "parted" answers stay.
        hall.create("five")
        hall.include("one", "five")
        self.assertEqual(self.kept(hall), {"one": 2, "two": 2, "three": 2, "four": 0, "five": 0})
        hall.add("five", A, A)
        self.assertEqual(self.kept(hall), {"one": 1, "two": 1, "three": 1, "four": 0, "five": 0})

    def test_models_and_imports_with_many_assignments(self):
        for count, is_kept in [(6, True), (7, False)]:
            hall = hall_of("a g f", "one two")
            hall.ask("one", t("g(g(g(a)))"), A)
            self.assertEqual(hall.ask("one", t("g(g(g(a)))"), A)[1][0], 4)
            term = 0
            for number in range(1, count):
                term = ("f", term, number)
            hall.add("two", term, term)
            hall.include("one", "two")
            self.assertIs(len(hall.kept("one")) == 1, is_kept)

    def test_kept_answers_whatever_the_limits(self):
        hall = hall_of("a b g", "one two", "two>one", "one: g(g(g(x0))) = x0")
        for text, word in [("g(g(g(g(a)))) = g(a)", "same"), ("g(a) = b", "apart"), ("g(x0) = x0", "parted")]:
            first = self.check(hall, "a b g", "two", text, word)
            kept = copy.deepcopy(first)
            first[1].clear() if word == "same" else first[1][0 if word == "parted" else 1].clear()
            self.assertEqual(hall.ask("two", *eq(text), steps=0, max_size=0, max_models=0), kept)
        self.assertEqual(hall.ask("one", *eq("g(x0) = x0"), steps=0, max_size=0), ("open",))
        self.assertEqual((hall.kept("one"), len(hall.kept("two"))), ([], 3))

    def test_random_calls_keep_sound_answers(self):
        names = signature("a g f")
        for seed in range(12):
            rng = seeded(seed)
            hall, pool = Hall(names), small_equations(rng, 8)
            for name in ("one", "two", "three", "four"):
                hall.create(name)
            for _ in range(50):
                name, choice = rng.choice(hall.theories()), rng.random()
                if choice < 0.15 and len(hall.sources(name)) < 5:
                    hall.add(name, *rng.choice(pool))
                elif choice < 0.25 and hall.sources(name):
                    hall.drop(*rng.choice(hall.sources(name)))
                elif choice < 0.35:
                    try:
                        hall.include(name, rng.choice(hall.theories()))
                    except (Cyclic, Duplicate):
                        pass
                else:
                    hall.ask(name, *rng.choice(pool), max_size=rng.choice([0, 2]))
                for theory in hall.theories():
                    for question in hall.kept(theory):
                        found = hall.ask(theory, *question, steps=0, max_size=0)
                        self.assertTrue(is_sound(names, hall.given(theory), *question, found))
                        self.assertLessEqual(set(hall.rests_on(theory, *question)), set(hall.sources(theory)))


class WrittenTest(unittest.TestCase):
    def test_every_kind_of_line(self):
        hall = Hall(signature("k a f m g", "m"))
        for name in ("two", "one", "three"):
            hall.create(name)
        hall.include("three", "one")
        hall.include("one", "two")
        hall.include("three", "two")
        hall.add("one", *eq("f(x0, m(x1, a)) = x9"))
        hall.add("two", *eq("g(a) = a"))
        hall.add("one", *eq("k(x0, x0, a) = x0"))
        hall.add("one", A, A)
        hall.drop("one", 1)
        hall.drop("two", 0)
        hall.ask("one", A, A)
        self.assertEqual(hall.written(), [
            "operation k 3", "operation a 0", "operation f 2", "operation m 2 commutative", "operation g 1",
            "theory two", "theory one", "theory three", "import one two", "import three one", "import three two",
            "equation one 0 f(x0, m(x1, a)) = x9", "equation one 2 a = a", "next two 1", "next one 3", "next three 0"])

    def test_the_empty_hall(self):
        self.assertEqual(Hall(signature("")).written(), [])
        self.assertEqual(Hall(signature("a")).written(), ["operation a 0"])
        self.assertEqual(hall_of("", "one").written(), ["theory one", "next one 0"])


if __name__ == "__main__":
    unittest.main()
