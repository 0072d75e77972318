"""Point 46: greatest partial pairings."""

import random
import unittest

from helpers import Cases, count_uncovered, fits, odd_ears, odd_groups_without, small_graphs

from comesapart.barriers import barrier
from comesapart.greatest import greatest_pairing


class GreatestPairingTests(unittest.TestCase, Cases):
    def check(self, points, ties, uncovered):
        chosen = greatest_pairing(points, ties)
        self.assertEqual(sorted(set(chosen)), chosen)
        self.assertTrue(all(tie in range(len(ties)) for tie in chosen))
        self.assertTrue(fits(points, ties, chosen))
        self.assertEqual(uncovered, len(points) - 2 * len(chosen))

    def test_ordinary_graphs(self):
        self.assertEqual([0], greatest_pairing([3, 5, 4], [(5, 3)]))
        self.assertEqual([0, 2], greatest_pairing([0, 1, 2, 3], [(0, 1), (1, 2), (2, 3)]))
        self.check([0, 1, 2, 3], [(1, 2), (0, 1), (2, 3)], 0)
        self.check([0, 1, 2, 3], [(0, 1), (0, 2), (0, 3)], 2)
        self.check([0, 1, 2], [(0, 1), (1, 2), (2, 0)], 1)

    def test_edges(self):
        self.assertEqual([], greatest_pairing([], []))
        self.assertEqual([], greatest_pairing([], [(0, 1)]))
        self.assertEqual([], greatest_pairing([7], [(7, 7)]))
        self.assertEqual([], greatest_pairing([0, 1], [(0, 2), (3, 1), (0, 0), (1, 1), (2, 3)]))
        self.assertEqual([3], greatest_pairing([-1, 10 ** 20], [(0, 1), (-1, -1), (-1, 0), (10 ** 20, -1)]))
        self.check([0, 1], [(0, 1), (1, 0), (0, 1)], 0)

    def test_odd_cycles_inside_of_odd_cycles(self):
        # A triangle, a longer odd cycle through it, and two points that hang on it.
        ties = [(0, 1), (1, 2), (2, 0), (1, 3), (3, 4), (4, 2), (0, 5), (3, 6)]
        self.check(list(range(7)), ties, 1)
        self.check(list(range(6)), ties, 0)
        for start in range(8):
            self.check(list(range(7)), ties[start:] + ties[:start], 1)

    def test_against_a_search_that_tries_all_lists(self):
        for points, ties in small_graphs(500, 46, most_points=8, most_ties=10):
            self.check(points, ties, count_uncovered(points, ties))

    def test_graphs_of_middle_size(self):
        # Odd pieces without the barrier show that no partial pairing has more ties.
        rng = random.Random(48)
        for _ in range(1500):
            points = list(range(rng.randint(8, 30)))
            ties = [(rng.choice(points), rng.choice(points)) for _ in range(rng.randint(len(points), 2 * len(points)))]
            removed = barrier(points, ties)
            self.check(points, ties, odd_groups_without(points, ties, set(removed)) - len(removed))

    def test_large_graphs(self):
        rng = random.Random(47)
        for count, ties in ((200, 250), (200, 300), (500, 700), (1000, 1200)):
            points = rng.sample(range(2 * count), count)
            ties = [(rng.choice(points), rng.choice(points)) for _ in range(ties)]
            removed = barrier(points, ties)
            self.check(points, ties, odd_groups_without(points, ties, set(removed)) - len(removed))

    def test_large_graphs_of_odd_cycles(self):
        for seed in range(5):
            ties = list(odd_ears(100, seed).all_ties[1:])
            self.check(list(range(1, 200)), ties, 1)
            for point in (1, 2, 77, 198, 199):
                self.check([other for other in range(1, 200) if other != point], ties, 0)
        ties = [(point, point + 1) for point in range(998)] + [(point, point + 2) for point in range(997)]
        self.check(list(range(999)), ties[::-1], 1)

    def test_new_list_and_tuples(self):
        self.assert_new_list(greatest_pairing, [3, 5, 4], [(5, 3)])
        self.assertEqual([1], greatest_pairing((3, 5, 4), ((5, 5), (5, 3))))


if __name__ == "__main__":
    unittest.main()
