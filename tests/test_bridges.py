"""Points 40 and 41: bridges, bridge orders and the core."""

import random
import unittest

from helpers import Cases, all_pairings, odd_ears, random_paired, small_paired

from comesapart.alternating import alternating_cycles, web_of_pairs
from comesapart.bridges import (bridge_order, bridges_of_openings, core, fault_in_bridges, is_bridge, is_only_pairing,
                                openings_of_bridges)
from comesapart.errors import UnknownPair
from comesapart.groups import grouped
from comesapart.openings import fault_in_order, opening_order
from comesapart.pairedwebs import PairedWeb

# A path of three pairs, one of them with a loop, and a fourth pair with an equal tie.
PAIRED = PairedWeb(4, [(1, 2), (3, 4), (1, 3), (5, 5), (6, 7)])
SQUARE = PairedWeb(3, [(1, 2), (3, 0), (3, 4)])


def bridge_by_words(paired, taken, pair):
    left = [point for point in range(paired.points) if point // 2 not in taken]
    ties = [tie for index, tie in enumerate(paired.all_ties) if index != pair]
    return not any(2 * pair in group and 2 * pair + 1 in group for group in grouped(left, ties))


def slow_order(paired):
    order, ready = [], True
    while ready:
        ready = [pair for pair in range(paired.pairs) if pair not in order and bridge_by_words(paired, order, pair)]
        order += ready[:1]
    return order


class IsBridgeTests(unittest.TestCase, Cases):
    def test_ordinary_pairs(self):
        self.assertEqual([True, False, True, False], [is_bridge(PAIRED, [], pair) for pair in range(4)])
        self.assertIs(True, is_bridge(PAIRED, (0,), 1))
        self.assertIs(False, is_bridge(PAIRED, [0, 1, 2], 3))
        self.assertEqual([False, False, True], [is_bridge(SQUARE, [], pair) for pair in range(3)])
        self.assertEqual([True, True], [is_bridge(SQUARE, [1, 2], 0), is_bridge(SQUARE, [2, 0], 1)])

    def test_against_the_words_of_the_document(self):
        rng = random.Random(40)
        for paired in small_paired(200, 41, most_pairs=6, most_free=9):
            taken = rng.sample(range(paired.pairs), rng.randint(0, paired.pairs))
            for pair in range(paired.pairs):
                if pair not in taken:
                    self.assertIs(bridge_by_words(paired, taken, pair), is_bridge(paired, taken, pair))

    def test_errors(self):
        for wrong in (4, -1, 10 ** 20):
            self.assert_raises(UnknownPair, {"pair": wrong}, is_bridge, PAIRED, [0, wrong, 99], 77)
            self.assert_raises(UnknownPair, {"pair": wrong}, is_bridge, PAIRED, (wrong,), 0)
            self.assert_raises(UnknownPair, {"pair": wrong}, is_bridge, PAIRED, [wrong, 0], 0)
            self.assert_raises(UnknownPair, {"pair": wrong}, is_bridge, PAIRED, [0], wrong)
            self.assert_raises(UnknownPair, {"pair": wrong}, is_bridge, PAIRED, [], wrong)
        self.assert_raises(UnknownPair, {"pair": 2}, is_bridge, PAIRED, [1, 2], 2)
        self.assert_raises(UnknownPair, {"pair": 0}, is_bridge, PairedWeb(0, []), [], 0)


class BridgeOrderTests(unittest.TestCase, Cases):
    def test_ordinary_orders(self):
        self.assertEqual(([0, 1, 2], [3], False), (bridge_order(PAIRED), core(PAIRED), is_only_pairing(PAIRED)))
        self.assertEqual(([2], [0, 1], False), (bridge_order(SQUARE), core(SQUARE), is_only_pairing(SQUARE)))

    def test_edges(self):
        self.assertEqual(([], [], True), (bridge_order(PairedWeb(0, [])), core(PairedWeb(0, [])),
                                          is_only_pairing(PairedWeb(0, []))))
        self.assertEqual([0, 1, 2], bridge_order(PairedWeb(3, [])))
        self.assertEqual([0], bridge_order(PairedWeb(1, [(0, 0), (1, 1)])))
        self.assertEqual([], bridge_order(PairedWeb(1, [(1, 0)])))

    def test_the_lowest_bridge_comes_first(self):
        # Pair 0 lies on a cycle through 1 and becomes a bridge only when 1 has been taken.
        self.assertEqual([1, 0, 2], bridge_order(PairedWeb(3, [(1, 2), (0, 2), (4, 3)])))

    def test_against_the_words_of_the_document(self):
        for paired in small_paired(200, 42, most_pairs=6, most_free=9):
            order = slow_order(paired)
            self.assertEqual(order, bridge_order(paired))
            self.assertEqual([pair for pair in range(paired.pairs) if pair not in order], core(paired))
            self.assertIs(len(order) == paired.pairs, is_only_pairing(paired))

    def test_every_full_order_leaves_the_core(self):
        rng = random.Random(43)
        for paired in small_paired(100, 43, most_pairs=6, most_free=9):
            taken, ready = [], True
            while ready:
                ready = [pair for pair in range(paired.pairs) if pair not in taken and is_bridge(paired, taken, pair)]
                taken += [rng.choice(ready)] if ready else []
            self.assertIsNone(fault_in_bridges(paired, taken))
            self.assertEqual(core(paired), sorted(set(range(paired.pairs)) - set(taken)))

    def test_the_core_belongs_to_alternating_cycles_and_pairings(self):
        for paired in small_paired(150, 44):
            cycles = alternating_cycles(paired)
            self.assertIs(cycles == [], is_only_pairing(paired))
            self.assertEqual(is_only_pairing(paired), len(all_pairings(range(paired.points), paired.all_ties)) == 1)
            self.assertTrue({tie for cycle in cycles for tie, _ in cycle if tie < paired.pairs} <= set(core(paired)))

    def test_new_lists(self):
        self.assert_new_list(bridge_order, PAIRED)
        self.assert_new_list(core, SQUARE)
        self.assert_new_list(bridges_of_openings, PAIRED, [1, 0])
        self.assert_new_list(openings_of_bridges, PAIRED, [1, 0])

    def test_large_paired_webs(self):
        chain = PairedWeb(100, [(2 * pair + 1, 2 * pair + 2) for pair in range(99)])
        self.assertEqual((list(range(100)), []), (bridge_order(chain), core(chain)))
        for paired in (odd_ears(100, 41), random_paired(random.Random(45), 100, 200)):
            order = bridge_order(paired)
            self.assertEqual(slow_order(paired), order)
            self.assertIsNone(fault_in_bridges(paired, order))


class FaultTests(unittest.TestCase):
    def test_bridge_orders(self):
        for order in ([], [0], [0, 1], [0, 1, 2], (2, 0, 1)):
            self.assertIsNone(fault_in_bridges(PAIRED, order))

    def test_faults(self):
        for order, index in (([1], 0), ([0, 3], 1), ([0, 1, 2, 3], 3), ([0, 0], 1), ([0, 1, 0, 99], 2), ([4], 0),
                             ([0, -1], 1), ([0, 10 ** 20, 0], 1), ([-4], 0), ((2, 0, -4, 1), 2), ([2, 1], 1),
                             ([3, 0], 0)):
            self.assertEqual(index, fault_in_bridges(PAIRED, order))
        self.assertEqual(0, fault_in_bridges(PairedWeb(0, []), [0]))

    def test_against_the_words_of_the_document(self):
        rng = random.Random(46)
        for paired in small_paired(200, 46, most_pairs=5):
            order = [rng.randrange(-1, paired.pairs + 1) for _ in range(rng.randint(0, 3))]
            expected = None
            for index in range(len(order))[::-1]:
                known = order[index] in range(paired.pairs) and order[index] not in order[:index]
                if not known or not bridge_by_words(paired, order[:index], order[index]):
                    expected = index
            self.assertEqual(expected, fault_in_bridges(paired, order))


class OrdersBetweenTests(unittest.TestCase):
    def test_bridges_of_openings(self):
        self.assertEqual([2, 0, 1, 3], bridges_of_openings(PAIRED, [5, 1, 4, 0, 2]))
        self.assertEqual([0, 1, 2, 3], bridges_of_openings(PAIRED, ()))
        self.assertEqual([3, 0, 1, 2], bridges_of_openings(PAIRED, [6, 6, 7]))
        self.assertEqual([], bridges_of_openings(PairedWeb(0, []), []))

    def test_openings_of_bridges(self):
        self.assertEqual([4, 5, 1, 2, 3], openings_of_bridges(PAIRED, [2, 0, 1]))
        self.assertEqual([], openings_of_bridges(PairedWeb(2, []), [1, 0]))
        self.assertEqual([6, 7], openings_of_bridges(PAIRED, (3,)))

    def test_orders_become_orders(self):
        for paired in small_paired(200, 47, most_pairs=6):
            web = web_of_pairs(paired)
            self.assertIsNone(fault_in_order(web, openings_of_bridges(paired, bridge_order(paired))))
            if is_only_pairing(paired):
                order = bridges_of_openings(paired, opening_order(web))
                self.assertEqual(list(range(paired.pairs)), sorted(order))
                self.assertIsNone(fault_in_bridges(paired, order))


if __name__ == "__main__":
    unittest.main()
