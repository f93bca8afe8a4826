import unittest

from helpers import A, bush, plain_substitute, random_term, seeded, t, tower
from joinedends.measures import filled, measure, profile


def plain_profile(term, level=1):
    if isinstance(term, int):
        return 1, level, {term: (1, level)}
    total, deepest, spots = 1, level, {}
    for part in term[1:]:
        more, below, inner = plain_profile(part, level + 1)
        total, deepest = total + more, max(deepest, below)
        for name, (count, place) in inner.items():
            before, lowest = spots.get(name, (0, 0))
            spots[name] = (before + count, max(lowest, place))
    return total, deepest, spots


class ProfileTest(unittest.TestCase):
    def test_profiles(self):
        self.assertEqual(profile(3), (1, 1, {3: (1, 1)}))
        self.assertEqual(profile(A), (1, 1, {}))
        self.assertEqual(profile(t("k(x0, g(f(x0, x1)), a)")), (7, 4, {0: (2, 4), 1: (1, 4)}))
        self.assertEqual(profile(bush("f", 5, 2)), (63, 6, {2: (32, 6)}))
        self.assertEqual(measure(tower("g", 29, A)), (30, 30))

    def test_random_terms(self):
        rng = seeded(31)
        for _ in range(200):
            term = random_term(rng, 5)
            self.assertEqual(profile(term), plain_profile(term))
            self.assertEqual(measure(term), plain_profile(term)[:2])
            values = {name: random_term(rng, 3) for name in profile(term)[2]}
            shapes = {name: profile(values[name]) for name in values}
            self.assertEqual(filled(profile(term), shapes), plain_profile(plain_substitute(term, values)))


if __name__ == "__main__":
    unittest.main()
