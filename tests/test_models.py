import copy
import unittest

from helpers import A, B, comb, eq, random_term, rules_of, seeded, signature, sized, t
from joinedends.models import cell_count, counterexample, find_model, holds, is_model, separates, value
from joinedends.notation import write_equation
from plain_models import plain_counterexample, plain_find, plain_value

# a is 1, g turns 1 to 2 and 2 to 1, f is 1 for (1, 2) and 2 for (2, 2).
MODEL = (3, {"a": {(): 1}, "b": {}, "g": {(1,): 2, (2,): 1}, "f": {(1, 2): 1, (2, 2): 2}})
NAMES = "a b g f"


def random_model(rng, names, size):
    tables = {name: {} for name in names}
    for name in names:
        keys = [()]
        for _ in range(names.arity(name)):
            keys = [key + (k,) for key in keys for k in range(size)]
        for key in keys:
            result = rng.randrange(size)
            if result:
                tables[name][key] = result
    return size, tables


class ValueTest(unittest.TestCase):
    def test_values(self):
        for text, assignment, wanted in [("a", {}, 1), ("b", {}, 0), ("x4", {4: 2}, 2), ("g(x0)", {0: 1}, 2),
                                         ("g(b)", {}, 0), ("f(a, g(a))", {}, 1), ("f(x1, x0)", {0: 1, 1: 2}, 0),
                                         ("f(x0, x1)", {0: 1, 1: 2, 7: 0}, 1), ("f(g(x3), g(x3))", {3: 1}, 2),
                                         ("g(f(b, b))", {}, 0), ("x0", {0: 0}, 0)]:
            self.assertEqual(value(MODEL, t(text), assignment), wanted, text)

    def test_against_plain_values(self):
        rng = seeded(1)
        names = signature()
        for _ in range(200):
            model = random_model(rng, names, rng.randrange(1, 4))
            term = random_term(rng, 4, 4)
            assignment = {name: rng.randrange(model[0]) for name in range(4)}
            before = copy.deepcopy((model, assignment))
            self.assertEqual(value(model, term, assignment), plain_value(model, term, assignment))
            self.assertEqual((model, assignment), before)

    def test_cell_count(self):
        for names, size, wanted in [("", 1, 0), ("", 4, 0), ("a", 3, 1), ("a b c", 2, 3), ("a g f k", 1, 4),
                                    ("a g f k", 2, 15), ("k f g a", 2, 15), ("g", 4, 4), ("f m", 3, 18), ("k", 4, 64)]:
            self.assertEqual(cell_count(signature(names), size), wanted)


class HoldsTest(unittest.TestCase):
    def check(self, text, wanted, model=MODEL):
        left, right = eq(text)
        self.assertEqual(counterexample(model, left, right), wanted, text)
        self.assertIs(holds(model, left, right), wanted is None)

    def test_counterexamples(self):
        self.check("g(g(x0)) = x0", None)
        self.check("g(x0) = x0", {0: 1})
        self.check("f(x0, x1) = f(x1, x0)", {0: 1, 1: 2})
        self.check("x5 = x3", {5: 0, 3: 1})
        self.check("f(x3, g(x3)) = f(g(x3), x3)", {3: 1})
        self.check("f(x1, x1) = b", {1: 2})
        self.check("x0 = a", {0: 0})
        self.check("f(x2, x1) = f(x0, x1)", {2: 0, 1: 2, 0: 1})
        # The variables in the order of their first occurrence, in the left side first.
        self.check("f(x1, x0) = b", {1: 1, 0: 2})
        self.check("b = f(x0, x1)", {0: 1, 1: 2})

    def test_the_order_of_the_keys(self):
        found = counterexample(MODEL, *eq("f(x9, x2) = f(x0, x9)"))
        self.assertEqual(found, plain_counterexample(MODEL, *eq("f(x9, x2) = f(x0, x9)")))
        self.assertEqual(list(found), [9, 2, 0])

    def test_without_variables(self):
        self.check("a = b", {})
        self.check("a = a", None)
        self.check("f(a, g(a)) = a", None)
        self.check("g(g(b)) = b", None)
        self.check("g(a) = f(b, b)", {})

    def test_one_element(self):
        model = (1, {name: {} for name in NAMES.split()})
        for text in ("a = b", "x0 = x1", "f(x0, x1) = g(a)"):
            self.check(text, None, model)

    def test_without_operations(self):
        self.check("x0 = x1", {0: 0, 1: 1}, (2, {}))
        self.check("x0 = x0", None, (5, {}))
        self.check("x0 = x1", None, (1, {}))

    def test_against_plain_counterexamples(self):
        rng = seeded(2)
        names = signature()
        found = 0
        for _ in range(200):
            model = random_model(rng, names, rng.randrange(1, 4))
            left, right = random_term(rng, 3, 3), random_term(rng, 3, 4)
            wanted = plain_counterexample(model, left, right)
            found += wanted is not None
            self.check(write_equation(left, right), wanted, model)
        self.assertTrue(20 < found < 180)

    def test_many_assignments(self):
        term = comb("f", 10, 0)
        for number in range(12):
            term = ("f", number, term)
        other = ("f", 0, term)
        model = (2, {"f": {(0, 0): 1, (0, 1): 1, (1, 0): 1}})
        self.assertEqual(counterexample(model, term, other), plain_counterexample(model, term, other))
        model = (2, {"f": {(0, 1): 1, (1, 0): 1, (1, 1): 1}})
        self.assertIsNone(counterexample(model, term, other))
        self.assertTrue(holds((4096, {"g": {}, "b": {}}), ("g", 0), B))
        self.assertEqual(counterexample((4096, {"g": {(4095,): 1}, "b": {}}), ("g", 0), B), {0: 4095})


class IsModelTest(unittest.TestCase):
    def test_models(self):
        for names, model in [(NAMES, MODEL), ("", (1, {})), ("", (7, {})), ("a", (1, {"a": {}})), ("a", (2, {"a": {(): 1}})),
                             ("k", (3, {"k": {(0, 2, 1): 2}})), ("g a", (2, {"a": {}, "g": {(0,): 1, (1,): 1}}))]:
            self.assertIs(is_model(signature(names), model), True)

    def test_each_way_of_spoiling(self):
        names = signature(NAMES)
        size, tables = MODEL

        def spoilt(name, key, result):
            found = copy.deepcopy(tables)
            found[name][key] = result
            return size, found

        wrong = [(0, tables), (-1, tables), (-3, tables), (2, tables), (1, tables), (0, {}), (1, {}), (3, {})]
        wrong += [spoilt("g", (0,), 0), spoilt("g", (0,), 3), spoilt("g", (0,), -1), spoilt("b", (), 0),
                  spoilt("g", (3,), 1), spoilt("g", (-1,), 1), spoilt("f", (0, 3), 1), spoilt("f", (-1, 0), 1),
                  spoilt("g", (), 1), spoilt("g", (0, 0), 1), spoilt("a", (0,), 1), spoilt("f", (1,), 1),
                  spoilt("f", (1, 1, 1), 1), spoilt("f", (), 2)]
        wrong.append((size, {name: tables[name] for name in tables if name != "b"}))
        wrong.append((size, {**tables, "h": {}}))
        wrong.append((size, {**{name: tables[name] for name in tables if name != "b"}, "bb": {}}))
        wrong.append((size, {**{name: tables[name] for name in tables if name != "f"}, "": {}}))
        for model in wrong:
            before = copy.deepcopy(model)
            self.assertIs(is_model(names, model), False, model)
            self.assertIs(separates(names, [], A, B, model), False)
            self.assertEqual(model, before)
        self.assertIs(separates(names, [], A, B, MODEL), True)
        self.assertIs(is_model(signature(""), (0, {})), False)
        self.assertIs(is_model(names, (10 ** 30, tables)), True)


class SeparatesTest(unittest.TestCase):
    def test_separates(self):
        names = signature(NAMES)
        for given, asked, wanted in [([], "g(x0) = x0", True), ([], "g(g(x0)) = x0", False),
                                     (["g(g(x0)) = x0"], "f(x0, x1) = f(x1, x0)", True),
                                     (["g(g(x0)) = x0", "a = b"], "f(x0, x1) = f(x1, x0)", False),
                                     (["a = b", "g(g(x0)) = x0"], "f(x0, x1) = f(x1, x0)", False),
                                     (["g(g(x0)) = x0"], "f(a, g(a)) = a", False), (["b = g(b)"], "a = b", True)]:
            self.assertIs(separates(names, rules_of(*given), *eq(asked), MODEL), wanted)

    def test_a_model_for_other_operations(self):
        for names in ("a b g", "a b g f h", "a b g m", ""):
            self.assertIs(separates(signature(names), [], A, B, MODEL), False)


class FindModelTest(unittest.TestCase):
    def check(self, names, given, asked, **limits):
        names, given, asked = signature(names), rules_of(*given), eq(asked)
        before = copy.deepcopy(given)
        found = find_model(names, given, *asked, **limits)
        wanted = plain_find(names, given, *asked, limits.get("max_size", 2), limits.get("max_models", 500))
        self.assertEqual(found, wanted)
        self.assertEqual(given, before)
        if found is not None:
            self.assertTrue(separates(names, given, *asked, found))
            self.assertEqual(list(found[1]), list(names))
        return found

    def test_the_first_model(self):
        self.assertEqual(self.check("a b", [], "a = b"), (2, {"a": {}, "b": {(): 1}}))
        self.assertEqual(self.check("a b g", [], "g(x0) = x0"), (2, {"a": {}, "b": {}, "g": {}}))
        self.assertEqual(self.check("f", [], "f(x0, x1) = f(x1, x0)"), (2, {"f": {(1, 0): 1}}))
        self.assertEqual(self.check("f a", ["f(x0, x1) = f(x1, x0)", "f(a, x0) = x0"], "f(x0, x0) = x0"),
                         (2, {"f": {(0, 1): 1, (1, 0): 1}, "a": {}}))
        self.assertEqual(self.check("", [], "x0 = x1"), (2, {}))

    def test_none(self):
        self.assertIsNone(self.check("a b", [], "a = a"))
        self.assertIsNone(self.check("a b", ["a = b"], "b = a"))
        self.assertIsNone(self.check("a b", ["x0 = x1"], "a = b"))
        self.assertIsNone(self.check("a b f", ["f(x0, x1) = a", "f(x0, x1) = b"], "a = b", max_models=5000))
        self.assertIsNone(self.check("g", ["g(g(x0)) = x0"], "g(g(g(x0))) = g(x0)", max_size=4, max_models=5000))

    def test_larger_sizes(self):
        given = ["g(g(g(x0))) = x0"]
        self.assertIsNone(self.check("g", given, "g(x0) = x0"))
        self.assertEqual(self.check("g", given, "g(x0) = x0", max_size=3), (3, {"g": {(0,): 1, (1,): 2}}))
        self.assertEqual(self.check("g", ["g(g(g(g(x0)))) = x0"], "g(g(x0)) = x0", max_size=4),
                         (4, {"g": {(0,): 1, (1,): 2, (2,): 3}}))

    def test_max_size(self):
        for max_size in range(5):
            self.check("g", ["g(g(g(g(x0)))) = x0"], "g(g(x0)) = x0", max_size=max_size)
            self.assertIs(self.check("a b", [], "a = b", max_size=max_size) is None, max_size < 2)

    def test_max_models(self):
        # 2 ** 4 models of size 2 and 3 ** 9 of size 3.
        for max_models, is_found in [(0, False), (1, False), (15, False), (16, True), (17, True), (5000, True)]:
            found = self.check("f", [], "f(x0, x1) = f(x1, x0)", max_models=max_models)
            self.assertIs(found is not None, is_found)
        # 2 ** 2, 3 ** 3 and 4 ** 4 of g.
        for max_models, size in [(3, 1), (4, 2), (26, 2), (27, 3), (255, 3), (256, 4)]:
            found = self.check("g", ["g(g(g(x0))) = x0"], "g(x0) = x0", max_size=4, max_models=max_models)
            self.assertIs(found is not None, size >= 3)
            found = self.check("g", ["g(g(g(g(x0)))) = x0"], "g(g(x0)) = x0", max_size=4, max_models=max_models)
            self.assertIs(found is not None, size == 4)

    def test_the_limits_left_out(self):
        # 2 ** 9 is above 500, and a model of size 3 is needed for the other one.
        self.assertIsNone(self.check("a f m", [], "f(x0, x1) = m(x0, x1)"))
        self.assertIsNotNone(self.check("f m", [], "f(x0, x1) = m(x0, x1)"))
        self.assertIsNotNone(self.check("a f m", [], "f(x0, x1) = m(x0, x1)", max_models=512))

    def test_many_assignments(self):
        def wide(count):
            term = A
            for number in range(count):
                term = ("f", number, term)
            return term

        names = signature("a f")
        for count, is_found in [(12, True), (13, False), (20, False)]:
            self.assertIs(find_model(names, [], wide(count), A) is not None, is_found)
            self.assertIs(find_model(names, [], A, wide(count)) is not None, is_found)
        for count, is_found in [(9, True), (10, True)]:
            given = [(wide(count), wide(count)), (("f", 0, 0), 0)]
            self.assertIs(find_model(names, given, *eq("f(x0, x1) = f(x1, x0)")) is not None, is_found)

    def test_the_number_of_assignments_for_each_size(self):
        # Here f is made to have one argument, so that a model of size 3 is needed.
        given = rules_of("f(x0, x1) = f(x0, x0)", "f(f(f(x0, x0), x0), x0) = x0")
        for count, is_found in [(7, True), (8, False)]:
            term = 0
            for number in range(1, count):
                term = ("f", number, term)
            for equations, asked in [([*given, (term, term)], eq("f(x0, x0) = x0")), (given, (term, ("f", term, term)))]:
                found = find_model(signature("f"), equations, *asked, max_size=3, max_models=20000)
                self.assertEqual(found is not None, is_found)
                if found is not None:
                    self.assertEqual(found, (3, {"f": {(0, 0): 1, (0, 1): 1, (0, 2): 1, (1, 0): 2, (1, 1): 2, (1, 2): 2}}))

    def test_against_plain_search(self):
        rng = seeded(3)
        found = 0
        for _ in range(150):
            names = rng.choice(["a g", "f a", "a b g", "f", "g h a", "m b"])
            equations = [(random_term(rng, 3, 3), random_term(rng, 3, 3)) for _ in range(3)]
            equations = [tuple(self.kept(side, names.split()) for side in equation) for equation in equations]
            given, asked = equations[:rng.randrange(3)], equations[2]
            model = self.check(names, [write_equation(*equation) for equation in given], write_equation(*asked),
                               max_size=rng.choice([2, 3]), max_models=rng.choice([100, 800]))
            found += model is not None
        self.assertTrue(20 < found < 140)

    def kept(self, term, names):
        """The term with other names in place of those that are not in the list."""
        if isinstance(term, int):
            return term
        if term[0] in names:
            return (term[0],) + tuple(self.kept(part, names) for part in term[1:])
        return self.kept(term[1], names) if len(term) > 1 else len(names)

    def test_many_models(self):
        # No model separates, and nearly all of the 4096 ones fail late.
        names = signature("a b c g h f")
        given = rules_of("f(x0, x1) = f(x1, x0)", "f(f(x0, x1), x2) = f(x0, f(x1, x2))", "g(h(x0)) = x0")
        self.assertIsNone(find_model(names, given, *eq("h(g(x0)) = x0"), max_models=5000))
        self.assertIsNone(find_model(names, given, sized(390), sized(390), max_models=5000))
        self.assertIsNotNone(find_model(names, given, *eq("f(x0, x0) = x0"), max_models=5000))

    def test_results_are_new(self):
        names = signature("a b")
        first = find_model(names, [], A, B)
        first[1]["a"][()] = 1
        self.assertEqual(find_model(names, [], A, B), (2, {"a": {}, "b": {(): 1}}))


if __name__ == "__main__":
    unittest.main()
