"""Point 34, and all turning cycles of a web."""

import random
import unittest

from helpers import Cases, all_turning_cycles, chain_of_doubles, random_web, small_webs

from comesapart.cycles import is_turning_cycle, normal_cycle
from comesapart.openings import fault_in_order, knot, opening_order
from comesapart.search import cycle_by_dropping, turning_cycles, verdict
from comesapart.webs import Web

EXAMPLE = Web([3, 2, 2], [(0, 0, 1, 0), (1, 1, 0, 1), (0, 2, 2, 0), (1, 1, 2, 1)])


def ring(length):
    """Return a web that is one turning cycle of this length."""
    return Web([2] * length, [(place, 1, (place + 1) % length, 0) for place in range(length)])


def left_after_dropping(web):
    """Drop ties in the words of the document; return the ties that are left."""
    left = list(range(len(web.ties)))
    for tie in range(len(web.ties)):
        fewer = [other for other in left if other != tie]
        if knot(Web(web.sides, [web.ties[other] for other in fewer])):
            left = fewer
    return left


class TurningCyclesTests(unittest.TestCase, Cases):
    def test_all_in_order(self):
        self.assertEqual([[(0, 0), (1, 0)], [(0, 0), (3, 0), (2, 1)]], turning_cycles(EXAMPLE))

    def test_webs_without_turning_cycles(self):
        for web in (Web.empty(), Web([4, 4], []), Web([2, 2], [(0, 0, 1, 1), (0, 0, 1, 0)]),
                    Web([1, 4], [(0, 0, 0, 0), (1, 3, 1, 3)])):
            self.assertEqual([], turning_cycles(web))
            self.assertIsNone(cycle_by_dropping(web))
            self.assertEqual(("apart", list(web.joints)), verdict(web))

    def test_loops_and_equal_ties(self):
        web = Web([2, 2], [(1, 1, 0, 1), (0, 1, 0, 0), (0, 0, 1, 0), (0, 0, 1, 0), (1, 0, 1, 1), (1, 0, 1, 0)])
        self.assertEqual([[(0, 0), (2, 0)], [(0, 0), (3, 0)], [(1, 0)], [(4, 0)]], turning_cycles(web))

    def test_three_and_four_sides(self):
        web = Web([4, 3], [(0, 0, 1, 0), (0, 1, 1, 1), (0, 2, 1, 2), (0, 3, 1, 2)])
        self.assertEqual([[(0, 0), (1, 1)], [(0, 0), (2, 1)], [(0, 0), (3, 1)], [(1, 0), (2, 1)], [(1, 0), (3, 1)]],
                         turning_cycles(web))

    def test_against_a_search_that_tries_all_cycles(self):
        found = 0
        for web in small_webs(300, 34, most_places=6, most_ties=9, most_sides=4):
            cycles = all_turning_cycles(web)
            found += len(cycles)
            self.assertEqual(cycles, turning_cycles(web))
        self.assertGreater(found, 200)

    def test_each_once_in_normal_form(self):
        web = Web([4] * 5, [(one, other - 1, other, one) for other in range(5) for one in range(other)])
        cycles = turning_cycles(web)
        self.assertEqual(37, len(cycles))
        self.assertEqual(sorted(cycles), cycles)
        self.assertEqual(cycles, [normal_cycle(cycle) for cycle in cycles])

    def test_new_lists(self):
        self.assert_new_list(turning_cycles, EXAMPLE)
        self.assert_new_list(cycle_by_dropping, EXAMPLE)

    def test_large_webs(self):
        self.assertEqual([[(tie, 0) for tie in range(200)]], turning_cycles(ring(200)))
        self.assertEqual([], turning_cycles(chain_of_doubles(149)))
        # Two turning cycles hold a chain of doubles in the knot; it has very many turning paths.
        chain = [(place, side, place + 1, 2) for place in range(1, 100) for side in (0, 1)]
        web = Web([3] * 101 + [2, 2], [(0, 0, 101, 0), (101, 1, 0, 1), (0, 2, 1, 2), (100, 0, 102, 0),
                                       (102, 1, 100, 1)] + chain)
        self.assertEqual([[(0, 0), (1, 0)], [(3, 0), (4, 0)]], turning_cycles(web))


class DroppingTests(unittest.TestCase, Cases):
    def test_example_of_the_document(self):
        self.assertEqual(("cycle", [(0, 0), (3, 0), (2, 1)]), verdict(EXAMPLE))

    def test_dropped_in_ascending_order(self):
        web = Web([2, 2], [(0, 0, 1, 0), (1, 1, 0, 1), (1, 0, 0, 0), (0, 1, 1, 1)])
        self.assertEqual([(2, 0), (3, 0)], cycle_by_dropping(web))
        self.assertEqual([(3, 0)], cycle_by_dropping(Web([2, 2], [(0, 0, 1, 0), (1, 1, 0, 1), (0, 0, 0, 1),
                                                                 (1, 1, 1, 0)])))

    def test_against_the_words_of_the_document(self):
        found = 0
        for web in small_webs(200, 35, most_places=6, most_ties=9, most_sides=4):
            cycle = cycle_by_dropping(web)
            if not knot(web):
                self.assertIsNone(cycle)
                continue
            found += 1
            self.assertTrue(is_turning_cycle(web, cycle))
            self.assertEqual(normal_cycle(cycle), cycle)
            self.assertEqual(left_after_dropping(web), sorted(tie for tie, _ in cycle))
        self.assertGreater(found, 30)

    def test_verdict_belongs_to_the_knot(self):
        for web in small_webs(200, 36, most_places=7, most_ties=9, most_sides=4):
            word, shown = verdict(web)
            if knot(web):
                self.assertEqual("cycle", word)
                self.assertEqual(cycle_by_dropping(web), shown)
                self.assertIn(shown, turning_cycles(web))
            else:
                self.assertEqual(("apart", opening_order(web)), (word, shown))
                self.assertEqual(list(web.joints), sorted(shown))
                self.assertEqual([], turning_cycles(web))

    def test_large_webs(self):
        rng = random.Random(37)
        for web in [random_web(rng, 200, 300, sides) for sides in (2, 3, 4) for _ in range(3)]:
            word, shown = verdict(web)
            self.assertEqual("cycle" if knot(web) else "apart", word)
            self.assertTrue(is_turning_cycle(web, shown) if knot(web) else fault_in_order(web, shown) is None)
        self.assertEqual([(tie, 0) for tie in range(200)], cycle_by_dropping(ring(200)))
        web = chain_of_doubles(149)
        word, shown = verdict(web)
        self.assertEqual(("apart", None), (word, fault_in_order(web, shown)))


if __name__ == "__main__":
    unittest.main()
