"""Point 47: odd pieces and barriers."""

import itertools
import random
import unittest

from helpers import Cases, all_pairings, count_uncovered, odd_ears, odd_groups_without, small_graphs

from comesapart.barriers import barrier, bars, odd_pieces
from comesapart.greatest import greatest_pairing
from comesapart.groups import grouped

STAR = ([0, 1, 2, 3], [(0, 1), (0, 2), (0, 3), (3, 3), (1, 7), (7, 2)])


class OddPiecesTests(unittest.TestCase, Cases):
    def test_odd_pieces(self):
        self.assertEqual([[-3], [1, 4, 8]], odd_pieces([8, 4, 1, 0, -3, 7], [(1, 8), (8, 4), (7, 0), (-3, 9)]))
        self.assertEqual([], odd_pieces([], [(0, 1)]))
        self.assertEqual([[5]], odd_pieces((5,), ((5, 5), (5, 6))))
        self.assertEqual([], odd_pieces([0, 1], [(1, 0), (1, 0)]))

    def test_they_are_groups(self):
        for points, ties in small_graphs(100, 47):
            self.assertEqual([group for group in grouped(points, ties) if len(group) % 2], odd_pieces(points, ties))

    def test_new_lists(self):
        self.assert_new_list(odd_pieces, [8, 4, 1], [(1, 8), (8, 4)])
        self.assert_new_list(barrier, *STAR)


class BarsTests(unittest.TestCase):
    def test_bars(self):
        points, ties = STAR
        for removed in ([0], (0,), [0, 1], [2, 0], [1, 0]):
            self.assertIs(removed in ([0], (0,)), bars(points, ties, removed))
        self.assertIs(False, bars(points, ties, []))
        self.assertIs(False, bars(points, ties, [3, 2, 1, 0]))
        self.assertIs(True, bars([0, 1, 2], [(0, 1), (1, 2), (2, 0)], []))
        self.assertIs(False, bars([], [(0, 1)], []))
        self.assertIs(True, bars((0, 1), ((0, 0), (1, 2)), ()))

    def test_every_list_of_points(self):
        for points, ties in small_graphs(100, 48, most_points=5):
            for count in range(len(points) + 1):
                for removed in itertools.permutations(points, count):
                    expected = odd_groups_without(points, ties, removed) > count
                    self.assertIs(expected, bars(points, ties, list(removed)))
                    self.assertTrue(not expected or all_pairings(points, ties) == [])


class BarrierTests(unittest.TestCase):
    def check(self, points, ties, uncovered):
        removed = barrier(points, ties)
        self.assertEqual(sorted(set(removed) & set(points)), removed)
        self.assertEqual(uncovered, odd_groups_without(points, ties, set(removed)) - len(removed))
        self.assertIs(uncovered > 0, bars(points, ties, removed))

    def test_ordinary_graphs(self):
        self.assertEqual([0], barrier(*STAR))
        self.check(*STAR, 2)
        self.check([0, 1, 2], [(0, 1), (1, 2), (2, 0)], 1)
        self.check([3, 1, 2, 0], [(0, 1), (1, 2), (2, 3)], 0)

    def test_edges(self):
        self.assertEqual([], barrier([], []))
        self.assertEqual([], barrier([], [(0, 0)]))
        self.check([4], [(4, 4)], 1)
        self.check([4, -4], [(4, 5), (5, -4), (4, 4)], 2)

    def test_against_a_search_that_tries_all_lists(self):
        barred = 0
        for points, ties in small_graphs(500, 49, most_points=8, most_ties=12):
            uncovered = count_uncovered(points, ties)
            self.check(points, ties, uncovered)
            barred += uncovered > 0
            self.assertIs(all_pairings(points, ties) == [], bars(points, ties, barrier(points, ties)))
        self.assertTrue(100 < barred < 499)

    def test_large_graphs(self):
        rng = random.Random(50)
        for count, ties in ((200, 220), (200, 300), (600, 700)):
            points = list(range(count))
            ties = [(rng.choice(points), rng.choice(points)) for _ in range(ties)]
            self.check(points, ties, count - 2 * len(greatest_pairing(points, ties)))
        for seed in range(5):
            ties = list(odd_ears(100, seed).all_ties[1:])
            self.check(list(range(1, 200)), ties, 1)
            # Three such graphs that hang on one point.
            copies = [(one + shift, other + shift) for shift in (0, 200, 400) for one, other in ties]
            links = [(600, 5), (600, 205), (600, 405)]
            self.check([point for point in range(601) if point % 200 or point == 600], copies + links, 2)


if __name__ == "__main__":
    unittest.main()
