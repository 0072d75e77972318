"""Points 38 and 39: the web of pairs, alternating cycles and parting cycles."""

import random
import unittest

from helpers import Cases, all_pairings, all_turning_cycles, small_paired

from comesapart.alternating import NotAPairing, alternating_cycles, changed_along, parting_cycles, web_of_pairs
from comesapart.bridges import is_only_pairing
from comesapart.cycles import is_turning_cycle, normal_cycle
from comesapart.pairedwebs import PairedWeb
from comesapart.pairings import pairings
from comesapart.webs import Web

# Pairs 0-1 and 2-3 with a square; pairs 4-5 and 6-7 with another square; a loop and a tie between the squares.
PAIRED = PairedWeb(4, [(1, 2), (3, 0), (6, 5), (4, 7), (0, 0), (3, 4)])


class WebOfPairsTests(unittest.TestCase):
    def test_web_of_pairs(self):
        web = web_of_pairs(PairedWeb(2, [(1, 2), (3, 3), (1, 0)]))
        self.assertEqual(Web([2] * 4, [(0, 0, 1, 0), (2, 0, 3, 0), (1, 1, 2, 1), (3, 1, 3, 1), (1, 1, 0, 1)]), web)

    def test_edges(self):
        self.assertEqual(Web.empty(), web_of_pairs(PairedWeb(0, [])))
        self.assertEqual(Web([2, 2], [(0, 0, 1, 0)]), web_of_pairs(PairedWeb(1, [])))
        web = web_of_pairs(PairedWeb(100, [(0, 199)] * 200))
        self.assertEqual((200, 300), (len(web.sides), len(web.ties)))


class AlternatingCyclesTests(unittest.TestCase, Cases):
    def test_all_in_order(self):
        self.assertEqual([[(0, 0), (4, 0), (1, 0), (5, 0)], [(2, 0), (6, 1), (3, 0), (7, 1)]],
                         alternating_cycles(PAIRED))

    def test_edges(self):
        for paired in (PairedWeb(0, []), PairedWeb(3, []), PairedWeb(1, [(0, 0), (1, 1)])):
            self.assertEqual([], alternating_cycles(paired))
        self.assertEqual([[(0, 0), (1, 1)], [(0, 0), (2, 0)]], alternating_cycles(PairedWeb(1, [(0, 1), (1, 0)])))

    def test_against_a_slow_search(self):
        for paired in small_paired(150, 38):
            cycles = all_turning_cycles(web_of_pairs(paired))
            self.assertEqual(cycles, alternating_cycles(paired))
            listed = all_pairings(list(range(paired.points)), paired.all_ties)
            self.assertEqual(len(listed) == 1, cycles == [])

    def test_new_lists(self):
        self.assert_new_list(alternating_cycles, PAIRED)
        self.assert_new_list(parting_cycles, PAIRED, [4, 5, 6, 7])
        self.assert_new_list(changed_along, [2, 0], [(1, 0), (2, 1)])


class ChangedAlongTests(unittest.TestCase):
    def test_changed_along(self):
        self.assertEqual([0, 1, 5], changed_along([5, 2, 0], [(2, 1), (1, 0)]))
        self.assertEqual([0, 1, 5], changed_along((5, 2, 0), ((2, 1), (1, 0))))
        self.assertEqual([], changed_along([], []))
        self.assertEqual([3, 7], changed_along([7, 3], []))
        self.assertEqual([3, 7], changed_along([], [(7, 0), (3, 1)]))
        self.assertEqual([], changed_along([7, 3], [(3, 0), (7, 1)]))

    def test_a_pairing_changed_along_an_alternating_cycle(self):
        for paired in small_paired(100, 39):
            points, pairs = list(range(paired.points)), list(range(paired.pairs))
            for cycle in alternating_cycles(paired):
                self.assertIn(changed_along(pairs, cycle), pairings(points, paired.all_ties))


class PartingCyclesTests(unittest.TestCase, Cases):
    def test_ordinary_pairings(self):
        first, second = alternating_cycles(PAIRED)
        self.assertEqual([], parting_cycles(PAIRED, [0, 1, 2, 3]))
        self.assertEqual([first], parting_cycles(PAIRED, [2, 3, 4, 5]))
        self.assertEqual([second], parting_cycles(PAIRED, (0, 1, 6, 7)))
        self.assertEqual([first, second], parting_cycles(PAIRED, [4, 5, 6, 7]))

    def test_edges(self):
        self.assertEqual([], parting_cycles(PairedWeb(0, []), []))
        self.assertEqual([[(0, 0), (2, 0)]], parting_cycles(PairedWeb(1, [(0, 1), (1, 0)]), [2]))

    def test_wrong_lists(self):
        for chosen in ([], [0], [0, 1, 2], [3, 2, 1, 0], [0, 1, 2, 2], [0, 0, 1, 2], [-4, -3, -2, -1], [0, 1, 2, 10],
                       [0, 1, 2, 10 ** 20], [0, 1, 2, 8], [0, 1, 2, 3, 4], [0, 1, 3, 9], [-1, 0, 1, 2, 3],
                       [0, 1, 2, -7]):
            self.assert_raises(NotAPairing, {}, parting_cycles, PAIRED, chosen)
            self.assert_raises(NotAPairing, {}, parting_cycles, PAIRED, tuple(chosen))
        self.assert_raises(NotAPairing, {}, parting_cycles, PairedWeb(0, []), [0])

    def test_the_cycles_part_the_pairing_from_the_pairs(self):
        rng = random.Random(40)
        for paired in small_paired(200, 40, most_pairs=5, most_free=9):
            points = list(range(paired.points))
            for chosen in pairings(points, paired.all_ties):
                cycles = parting_cycles(paired, chosen)
                self.assertEqual(sorted(cycles), cycles)
                self.assertEqual(cycles, [normal_cycle(cycle) for cycle in cycles])
                self.assertTrue(all(is_turning_cycle(web_of_pairs(paired), cycle) for cycle in cycles))
                steps = [step for cycle in cycles for step in cycle]
                self.assertEqual(chosen, changed_along(range(paired.pairs), steps))
            self.assertEqual(is_only_pairing(paired), alternating_cycles(paired) == [])
            wrong = [rng.randrange(-1, len(paired.all_ties) + 1) for _ in range(paired.pairs)]
            if wrong not in pairings(points, paired.all_ties):
                self.assert_raises(NotAPairing, {}, parting_cycles, paired, wrong)


if __name__ == "__main__":
    unittest.main()
