"""Points 51 to 53: turning cycles through a place or a tie."""

import random
import unittest

from helpers import Cases, all_turning_cycles, odd_groups_without, random_end, small_webs

from comesapart.cycles import cycle_places, is_turning_cycle, normal_cycle
from comesapart.errors import TooLarge, UnknownPlace, UnknownTie
from comesapart.gadgets import paired_of_web
from comesapart.openings import knot
from comesapart.through import cycle_through_place, cycle_through_tie, on_cycles, place_graph, tie_graph
from comesapart.webs import Web

# A turning cycle of 0 and 1; place 2 has three sides and lies on another one, place 3 hangs on it.
WEB = Web([2, 2, 3, 1], [(0, 0, 1, 0), (1, 1, 0, 1), (0, 1, 2, 1), (2, 0, 1, 1), (2, 2, 3, 0), (2, 2, 2, 2)])
# H has the pairs 0 and 1, the pairs 2 to 5 of place 2, and pair 6 of place 3.
PAIRS = [(0, 1), (2, 3), (4, 5), (6, 7), (8, 9), (10, 11), (12, 13)]
FREE = [(0, 2), (3, 1), (1, 6), (4, 3), (8, 12), (8, 8), (5, 10), (5, 11), (7, 10), (7, 11), (9, 10), (9, 11)]


def largest_webs(seed):
    """Return random webs that just keep to the limits of a paired web."""
    rng = random.Random(seed)
    webs = []
    for sides, places, ties in ((2, 100, 200), (3, 25, 50), (4, 20, 40)):
        counts = [sides] * places
        for count in (ties, ties * 3 // 4, ties // 2):
            webs.append(Web(counts, [random_end(rng, counts) + random_end(rng, counts) for _ in range(count)]))
    return webs


class GraphTests(unittest.TestCase, Cases):
    def test_place_graph(self):
        self.assertEqual((list(range(14)), PAIRS[1:] + FREE), place_graph(WEB, 0))
        self.assertEqual((list(range(14)), PAIRS[:5] + PAIRS[6:] + FREE), place_graph(WEB, 2))
        self.assertEqual((list(range(14)), PAIRS[:6] + FREE), place_graph(WEB, 3))

    def test_tie_graph(self):
        for tie in range(6):
            points = [point for point in range(14) if point not in FREE[tie]]
            self.assertEqual((points, PAIRS + FREE), tie_graph(WEB, tie))
        self.assertEqual(13, len(tie_graph(WEB, 5)[0]))

    def test_errors(self):
        for place in (4, -1, 10 ** 20):
            for function in (place_graph, cycle_through_place):
                self.assert_raises(UnknownPlace, {"place": place}, function, WEB, place)
        for tie in (6, -1, 10 ** 20):
            for function in (tie_graph, cycle_through_tie):
                self.assert_raises(UnknownTie, {"tie": tie}, function, WEB, tie)
        for web in (Web.empty(), Web([1], [])):
            self.assert_raises(UnknownPlace, {"place": 1}, cycle_through_place, web, 1)
            self.assert_raises(UnknownTie, {"tie": 0}, cycle_through_tie, web, 0)

    def test_errors_of_the_paired_web(self):
        many_pairs = Web([4] * 21, [(0, 0, 1, 0)])
        many_ties = Web([2], [(0, 0, 0, 1)] * 201)
        for web, limit in ((many_pairs, 100), (many_ties, 200)):
            self.assert_raises(TooLarge, {"limit": limit}, on_cycles, web)
            for function in (place_graph, cycle_through_place, tie_graph, cycle_through_tie):
                self.assert_raises(TooLarge, {"limit": limit}, function, web, 0)
            for function in (place_graph, cycle_through_place):
                self.assert_raises(UnknownPlace, {"place": 21}, function, web, 21)
            for function in (tie_graph, cycle_through_tie):
                self.assert_raises(UnknownTie, {"tie": 201}, function, web, 201)


class ThroughTests(unittest.TestCase, Cases):
    def check(self, web):
        """Each answer meets its condition, which also shows that the other word would be wrong."""
        places, ties = on_cycles(web)
        for place in range(len(web.sides)):
            word = self.check_answer(web, cycle_through_place(web, place), place_graph(web, place))
            self.assertEqual("cycle" if place in places else "barrier", word)
            if word == "cycle":
                self.assertIn(place, cycle_places(web, cycle_through_place(web, place)[1]))
        for tie in range(len(web.ties)):
            word = self.check_answer(web, cycle_through_tie(web, tie), tie_graph(web, tie))
            self.assertEqual("cycle" if tie in ties else "barrier", word)
            if word == "cycle":
                self.assertIn(tie, [step[0] for step in cycle_through_tie(web, tie)[1]])

    def check_answer(self, web, answer, graph):
        word, shown = answer
        if word == "cycle":
            self.assertTrue(is_turning_cycle(web, shown))
            self.assertEqual(normal_cycle(shown), shown)
        else:
            points, ties = graph
            self.assertEqual(sorted(set(shown) & set(points)), shown)
            self.assertGreater(odd_groups_without(points, ties, set(shown)), len(shown))
        return word

    def test_ordinary_web(self):
        self.assertEqual(([0, 1, 2], [0, 1, 2, 3]), on_cycles(WEB))
        self.assertEqual(("cycle", [(0, 0), (1, 0)]), cycle_through_tie(WEB, 1))
        self.assertEqual(("cycle", [(0, 0), (3, 1), (2, 1)]), cycle_through_place(WEB, 2))
        self.assertEqual("barrier", cycle_through_place(WEB, 3)[0])
        self.check(WEB)

    def test_edges(self):
        self.assertEqual(([], []), on_cycles(Web.empty()))
        self.assertEqual(([], []), on_cycles(Web([1, 2, 3, 4], [])))
        web = Web([2, 3, 1], [(0, 1, 0, 0), (0, 0, 0, 0), (1, 2, 1, 2), (1, 2, 1, 0), (2, 0, 2, 0), (0, 0, 0, 1)])
        self.assertEqual(([0, 1], [0, 3, 5]), on_cycles(web))
        self.assertEqual(("cycle", [(5, 0)]), cycle_through_tie(web, 5))
        self.check(web)

    def test_against_a_slow_search(self):
        found = 0
        for web in small_webs(200, 52, most_places=5, most_ties=8, most_sides=4):
            cycles = all_turning_cycles(web)
            found += len(cycles)
            places = sorted({web.tail(step)[0] for cycle in cycles for step in cycle})
            ties = sorted({tie for cycle in cycles for tie, _ in cycle})
            self.assertEqual((places, ties), on_cycles(web))
            self.assertTrue(set(places) <= set(knot(web)))
            self.check(web)
        self.assertGreater(found, 80)

    def test_largest_webs(self):
        for web in largest_webs(53):
            self.assertLessEqual(paired_of_web(web).pairs, 100)
            self.check(web)

    def test_long_cycles(self):
        ring = Web([2] * 100, [(place, 1, (place + 1) % 100, 0) for place in range(100)])
        self.assertEqual((list(range(100)), list(range(100))), on_cycles(ring))
        self.assertEqual(("cycle", [(tie, 0) for tie in range(100)]), cycle_through_place(ring, 57))
        self.assertEqual(("cycle", [(tie, 0) for tie in range(100)]), cycle_through_tie(ring, 99))

    def test_many_turning_paths(self):
        # The turning paths along a chain of doubles are very many; the chain is on no turning cycle.
        ties = [(place, side, place + 1, 2) for place in range(18) for side in (0, 1)]
        web = Web([3] * 19 + [2], ties + [(18, 0, 19, 0), (19, 1, 18, 1)])
        self.assertEqual(([18, 19], [36, 37]), on_cycles(web))
        self.check(web)

    def test_new_lists(self):
        for function, number in ((cycle_through_place, 2), (cycle_through_tie, 1), (cycle_through_place, 3),
                                 (cycle_through_tie, 4)):
            before = function(WEB, number)
            function(WEB, number)[1].append("changed")
            self.assertEqual(before, function(WEB, number))
        for function in (place_graph, tie_graph):
            function(WEB, 0)[0].append("changed")
            function(WEB, 0)[1].append("changed")
            self.assertNotIn("changed", function(WEB, 0)[0] + function(WEB, 0)[1])
        on_cycles(WEB)[0].append("changed")
        self.assertEqual(([0, 1, 2], [0, 1, 2, 3]), on_cycles(WEB))


if __name__ == "__main__":
    unittest.main()
