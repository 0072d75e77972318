"""Points 11 and 37: pairings of a graph, and the uses of ties."""

import random
import unittest

from helpers import Cases, all_pairings, odd_ears, random_paired, small_graphs, small_paired

from comesapart.bridges import is_only_pairing
from comesapart.detours import strict_path
from comesapart.pairedwebs import PairedWeb
from comesapart.pairings import is_pairing, pairings, tie_uses

SQUARE = [(0, 1), (1, 2), (2, 3), (3, 0)]


class PairingsTests(unittest.TestCase, Cases):
    def test_ordinary_graphs(self):
        self.assertEqual([[0, 2], [1, 3]], pairings([0, 1, 2, 3], SQUARE))
        self.assertEqual([[0, 2], [0, 3], [1, 2], [1, 3]], pairings([5, 7, -1, 2], [(7, 5), (5, 7), (2, -1), (-1, 2)]))

    def test_graphs_without_points(self):
        self.assertEqual([[]], pairings([], []))
        self.assertEqual([[]], pairings([], [(0, 1), (2, 2)]))

    def test_graphs_without_a_pairing(self):
        for points, ties in (([0], [(0, 0)]), ([0, 1], []), ([0, 1, 2], [(0, 1), (1, 2), (2, 0)]),
                             ([0, 1], [(0, 0), (1, 1)]), ([0, 1], [(0, 2), (1, 2)]),
                             ([0, 1, 2, 3], [(0, 1), (0, 2), (0, 3)])):
            self.assertEqual([], pairings(points, ties))

    def test_foreign_ends_and_loops_are_ignored(self):
        ties = [(0, 4), (0, 0), (0, 1), (4, 4), (9, -9), (1, 0)]
        self.assertEqual([[2], [5]], pairings([0, 1], ties))

    def test_against_a_search_that_tries_all_lists(self):
        found = 0
        for points, ties in small_graphs(600, 11, most_ties=12):
            expected = all_pairings(points, ties)
            found += len(expected)
            self.assertEqual(expected, pairings(points, ties))
        for paired in small_paired(200, 12):
            points = list(range(paired.points))
            self.assertEqual(all_pairings(points, paired.all_ties), pairings(points, paired.all_ties))
        self.assertGreater(found, 80)

    def test_all_pairings_of_complete_graphs(self):
        points = list(range(8))
        found = pairings(points, [(one, other) for other in points for one in range(other)])
        self.assertEqual(105, len(found))
        self.assertEqual(sorted(found), found)
        self.assertEqual(105, len(set(map(tuple, found))))

    def test_large_graphs_with_few_pairings(self):
        points = list(range(300))
        self.assertEqual([list(range(0, 299, 2))], pairings(points, [(point, point + 1) for point in range(299)]))
        # Two complete graphs of 15 points each: all of the very many beginnings fail.
        points = list(range(30))
        self.assertEqual([], pairings(points, [(one, other) for other in points for one in range(other)
                                               if (one < 15) == (other < 15)]))

    def test_new_lists_and_tuples(self):
        self.assert_new_list(pairings, [0, 1, 2, 3], SQUARE)
        self.assertEqual([[0, 2], [1, 3]], pairings((3, 2, 1, 0), tuple(SQUARE)))


class IsPairingTests(unittest.TestCase):
    def check(self, expected, points, ties, chosen):
        self.assertIs(expected, is_pairing(points, ties, chosen))
        self.assertIs(expected, is_pairing(tuple(points), tuple(ties), tuple(chosen)))

    def test_right_lists(self):
        self.check(True, [0, 1, 2, 3], SQUARE, [0, 2])
        self.check(True, [0, 1, 2, 3], SQUARE, [1, 3])
        self.check(True, [], [], [])
        self.check(True, [], SQUARE, [])

    def test_wrong_lists(self):
        for chosen in ([], [0], [0, 1], [2, 0], [3, 1], [0, 0], [0, 2, 2], [0, 4], [-4, 2], [0, -2], [-4, -2],
                       [0, 2, 4], [-1, 0, 2], [10 ** 20, 0], [0, 1, 2, 3]):
            self.check(False, [0, 1, 2, 3], SQUARE, chosen)

    def test_ends_that_are_no_points(self):
        self.check(False, [0, 1], [(0, 1), (2, 3)], [0, 1])
        self.check(False, [0, 1], [(0, 2), (1, 3)], [0, 1])
        self.check(False, [0, 1], [(0, 0), (1, 1)], [0, 1])
        self.check(False, [0], [(0, 0)], [0])
        self.check(False, [0], [(0, 0)], [])

    def test_exactly_the_listed_ones(self):
        rng = random.Random(11)
        for points, ties in small_graphs(300, 13):
            listed = pairings(points, ties)
            for chosen in listed:
                self.check(True, points, ties, chosen)
                if len(chosen) > 1:
                    self.check(False, points, ties, chosen[::-1])
            for _ in range(5):
                chosen = sorted(rng.sample(range(len(ties)), rng.randint(0, min(3, len(ties)))))
                self.check(chosen in listed, points, ties, chosen)


class TieUsesTests(unittest.TestCase, Cases):
    def test_ordinary_uses(self):
        self.assertEqual(["some", "some", "all", "some", "some", "none", "none"],
                         tie_uses(PairedWeb(3, [(1, 2), (3, 0), (3, 4), (2, 2)])))

    def test_edges(self):
        self.assertEqual([], tie_uses(PairedWeb(0, [])))
        self.assertEqual(["all", "all"], tie_uses(PairedWeb(2, [])))
        self.assertEqual(["some", "some", "some"], tie_uses(PairedWeb(1, [(1, 0), (0, 1)])))
        self.assertEqual(["all", "none"], tie_uses(PairedWeb(1, [(1, 1)])))

    def test_against_all_pairings(self):
        for paired in small_paired(300, 37):
            ties = paired.all_ties
            listed = all_pairings(list(range(paired.points)), ties)
            expected = []
            for tie in range(len(ties)):
                count = len([chosen for chosen in listed if tie in chosen])
                expected.append("all" if count == len(listed) else "some" if count else "none")
            self.assertEqual(expected, tie_uses(paired))

    def test_new_list(self):
        self.assert_new_list(tie_uses, PairedWeb(2, [(1, 2), (3, 0)]))

    def test_large_paired_webs(self):
        for paired in (odd_ears(100, 38), random_paired(random.Random(39), 100, 200)):
            expected = ["all"] * 100
            for one, other in paired.free:
                used = one != other and strict_path(paired, one, other)[0] == "path"
                expected.append("some" if used else "none")
                for point in (one, other) if used else ():
                    expected[point // 2] = "some"
            self.assertEqual(expected, tie_uses(paired))
            self.assertEqual("some" in expected, not is_only_pairing(paired))


if __name__ == "__main__":
    unittest.main()
