"""What the whole program promises: what is derived holds in models, and what models refute is not derived."""

import unittest

from completion_checks import SMALL, check_derivation, random_equations, random_orders, small, small_equations
from derivations import side_variables
from helpers import A, B, all_positions, eq, plain_substitute, random_term, seeded, signature
from joinedends.answers import answer, is_sound
from joinedends.certificates import accepts, make_certificate
from joinedends.chains import flat_length, flatten, is_derivation, shorten, used, visited
from joinedends.completion import Completion
from joinedends.ground import Closure
from joinedends.models import find_model, holds, is_model, separates
from joinedends.overlaps import overlaps
from joinedends.matching import match_term
from joinedends.pathorder import PathOrder
from joinedends.rewriting import normal_form
from joinedends.terms import canonical, replace, subterm
from plain_models import all_models

def models_of(given, sizes):
    names = signature(SMALL)
    return [model for size in sizes for model in all_models(names, size)
            if all(holds(model, *equation) for equation in given)]


def follower(rng, given, term, count):
    """A term that some steps by given equations lead to from the term."""
    for _ in range(count):
        old, new = rng.choice(given)[::rng.choice([1, -1])]
        position = rng.choice(all_positions(term))
        found = match_term(old, subterm(term, position))
        if found is not None:
            found = {name: found.get(name, A) for name in side_variables((old, new))}
            result = replace(term, position, plain_substitute(new, found))
            term = result if len(all_positions(result)) < 30 else term
    return term


class AnswersTest(unittest.TestCase):
    def test_same_holds_in_all_small_models(self):
        names = signature(SMALL)
        counts = {"same": 0, "apart": 0, "parted": 0, "open": 0}
        for seed in range(40):
            rng = seeded(seed)
            given = small_equations(rng, rng.randrange(1, 4))
            models = models_of(given, (1, 2))
            for left, right in small_equations(rng, 4) + given:
                found = answer(names, given, left, right, max_size=rng.choice([0, 2]))
                self.assertTrue(is_sound(names, given, left, right, found))
                if found[0] == "same":
                    self.assertTrue(all(holds(model, left, right) for model in models))
                counts[found[0]] += 1
        self.assertGreater(min(counts["same"], counts["apart"], counts["parted"]), 15)

    def test_nothing_that_follows_is_told_apart_or_parted(self):
        names = signature(SMALL)
        counts = {"same": 0, "open": 0}
        for seed in range(150):
            rng = seeded(seed)
            given = small_equations(rng, rng.randrange(1, 4))
            left = small(random_term(rng, 4, 3))
            right = follower(rng, given, left, 20)
            left, right = canonical(left, right)
            found = answer(names, given, left, right)
            self.assertIn(found[0], counts)
            self.assertTrue(is_sound(names, given, left, right, found))
            counts[found[0]] += left != right
        self.assertGreater(counts["same"], 30)

    def test_ground_questions_are_always_answered(self):
        names = signature("a b g f")
        for seed in range(60):
            rng = seeded(seed)
            ground = [plain_substitute(small(random_term(rng, 3, 2)), {0: A, 1: B}) for _ in range(8)]
            given = list(zip(ground[:6:2], ground[1:6:2]))
            found = answer(names, given, *ground[6:], steps=0, max_size=0, max_models=0)
            self.assertIn(found[0], ("same", "apart"))
            self.assertTrue(is_sound(names, given, *ground[6:], found))
            right = follower(rng, given, ground[6], 10)
            self.assertEqual(answer(names, given, ground[6], right, steps=0)[0], "same")


class ModelsAndDerivationsTest(unittest.TestCase):
    def test_what_completion_derives_holds_in_all_small_models(self):
        names = signature(SMALL)
        count = 0
        for seed in range(40):
            rng = seeded(seed)
            given = small_equations(rng, rng.randrange(1, 4))
            models = models_of(given, (1, 2))
            completion = Completion(PathOrder(names), given)
            completion.run(12)
            for k, rule in enumerate(completion.rules()):
                check_derivation(self, given, *rule, completion.derivation(k))
                self.assertTrue(all(holds(model, *rule) for model in models))
                self.assertIsNone(find_model(names, given, *rule))
                count += 1
            asked = small_equations(rng, 6)
            for left, right in asked + [equation[::-1] for equation in given]:
                stages = completion.derive(left, right)
                model = find_model(names, given, left, right)
                self.assertTrue(stages is None or model is None)
                if stages is not None:
                    check_derivation(self, given, left, right, stages)
                if model is not None:
                    self.assertTrue(separates(names, given, left, right, model))
        self.assertGreater(count, 30)

    def test_each_order(self):
        for seed in range(12):
            rng = seeded(seed)
            given = random_equations(rng, 3)
            for order in random_orders(rng):
                completion = Completion(order, given)
                completion.run(15)
                for row in overlaps(completion.rules())[:20]:
                    try:
                        stages = completion.derive(row[4], row[5])
                    except ValueError:
                        continue
                    if stages is not None:
                        check_derivation(self, given, row[4], row[5], stages)

    def test_closures_and_models(self):
        names = signature("a b g f")
        for seed in range(40):
            rng = seeded(seed)
            ground = [plain_substitute(small(random_term(rng, 3, 2)), {0: A, 1: B}) for _ in range(8)]
            given = list(zip(ground[:6:2], ground[1:6:2]))
            closure = Closure(given, ground[6:])
            model = closure.model(names)
            self.assertTrue(is_model(names, model))
            left, right = ground[6:]
            stages = closure.derivation(left, right)
            self.assertIs(separates(names, given, left, right, model), stages is None)
            if stages is not None:
                self.assertTrue(is_derivation(given, left, right, stages))
                self.assertIsNone(find_model(names, given, left, right))
                self.assertTrue(all(holds(found, left, right) for found in all_models(names, 2)
                                    if all(holds(found, *equation) for equation in given)))

    def test_chains_take_what_the_program_returned(self):
        given = [eq("f(f(x0, x1), x2) = f(x0, f(x1, x2))"), eq("f(a, x0) = x0"), eq("f(g(x0), x0) = a")]
        completion = Completion(PathOrder(signature("a f g")), given)
        self.assertEqual(completion.run(200), "complete")
        left, right = eq("g(f(f(x0, g(x1)), x2)) = f(g(x2), f(x1, g(x0)))")
        stages = completion.derive(left, right)
        steps = flatten(stages, 10000)
        self.assertEqual(len(steps), flat_length(stages))
        self.assertEqual(used(stages), [0, 1, 2])
        self.assertEqual(visited(given, [], left, steps)[-1], right)
        short = shorten(given, left, steps)
        self.assertLessEqual(len(short), len(steps))
        self.assertEqual(visited(given, [], left, short)[-1], right)
        self.assertTrue(is_derivation(given, left, right, [(left, right, short)]))

    def test_certificates_tell_what_follows(self):
        names = signature(SMALL)
        count = 0
        for seed in range(80):
            rng = seeded(seed)
            given = small_equations(rng, rng.randrange(1, 3))
            completion = Completion(PathOrder(names), given)
            if completion.run(30) != "complete":
                continue
            count += 1
            certificate = make_certificate(names, given, completion)
            self.assertIs(accepts(names, given, certificate), True)
            for left, right in small_equations(rng, 8):
                ends = [normal_form(certificate[0], side)[0] for side in (left, right)]
                self.assertIs(completion.derive(left, right) is not None, ends[0] == ends[1])
                if ends[0] == ends[1]:
                    self.assertIsNone(find_model(names, given, left, right))
        self.assertGreater(count, 20)


if __name__ == "__main__":
    unittest.main()
