"""Points 30 and 31: opening orders, the knot and waves."""

import random
import unittest

from helpers import Cases, all_turning_cycles, chain_of_doubles, random_web, small_webs

from comesapart.groups import grouped
from comesapart.hinges import hinges, is_hinge
from comesapart.openings import fault_in_order, knot, opening_order, openings, waves
from comesapart.webs import Web

# The example of the document: place 2 must be opened first, and 0 and 1 are tied by a turning cycle.
WEB = Web([2, 2, 2], [(0, 0, 1, 0), (0, 1, 1, 1), (1, 0, 2, 0), (2, 1, 2, 1)])


def slow_order(web):
    shut, order = list(web.joints), []
    while True:
        ready = [place for place in shut if is_hinge(web, shut, place)]
        if not ready:
            return order, shut
        order.append(min(ready))
        shut.remove(min(ready))


def slow_waves(web):
    shut, found = list(web.joints), []
    while True:
        ready = [place for place in shut if is_hinge(web, shut, place)]
        if not ready:
            return found
        found.append(ready)
        shut = [place for place in shut if place not in ready]


class OpeningTests(unittest.TestCase, Cases):
    def test_example_of_the_document(self):
        self.assertEqual([[(2, [[0, 1]])], [0, 1]], [list(openings(WEB)), knot(WEB)])
        self.assertEqual([2], opening_order(WEB))
        self.assertEqual([[2]], waves(WEB))

    def test_webs_without_joints(self):
        for web in (Web.empty(), Web([4, 4], []), Web([2, 2], [(0, 0, 1, 1), (0, 0, 0, 0)])):
            self.assertEqual(([], [], [], []), (opening_order(web), knot(web), waves(web), list(openings(web))))
            self.assertIsNone(fault_in_order(web, []))
            self.assertEqual(0, fault_in_order(web, [0]))

    def test_the_lowest_hinge_comes_first(self):
        # 1 frees 0, which comes before 2 then.
        web = Web([2, 2, 2, 1, 1], [(0, 0, 1, 0), (0, 1, 1, 0), (1, 1, 3, 0), (2, 0, 3, 0), (2, 1, 4, 0)])
        self.assertEqual([1, 0, 2], opening_order(web))
        self.assertEqual([[1, 2], [0]], waves(web))

    def test_a_knot_may_contain_other_joints(self):
        # The turning cycle of 1 and 2 touches both sides of 0, but each cycle through 0 has a cusp.
        web = Web([2, 2, 2], [(1, 0, 2, 0), (1, 1, 2, 1), (0, 0, 1, 0), (0, 1, 2, 1)])
        self.assertEqual([[(0, 0), (1, 1)]], all_turning_cycles(web))
        self.assertEqual([0, 1, 2], knot(web))
        self.assertEqual(([], []), (opening_order(web), waves(web)))

    def test_against_the_words_of_the_document(self):
        empty = 0
        for web in small_webs(200, 38, most_places=7, most_ties=9):
            order, rest = slow_order(web)
            empty += not rest
            self.assertEqual(order, opening_order(web))
            self.assertEqual(rest, knot(web))
            self.assertEqual(slow_waves(web), waves(web))
            self.assertIsNone(fault_in_order(web, order))
        self.assertTrue(20 < empty < 180, empty)

    def test_knots_and_turning_cycles(self):
        for web in small_webs(200, 39):
            cycles = all_turning_cycles(web)
            self.assertEqual(cycles == [], knot(web) == [])
            places = {web.tail(step)[0] for cycle in cycles for step in cycle}
            self.assertTrue(places <= set(knot(web)))

    def test_every_order_leaves_the_same_joints(self):
        rng = random.Random(40)
        for web in small_webs(80, 40, most_places=8, most_ties=10):
            shut, order = list(web.joints), []
            while hinges(web, shut):
                order.append(rng.choice(hinges(web, shut)))
                shut.remove(order[-1])
            self.assertEqual(knot(web), shut)
            self.assertIsNone(fault_in_order(web, order))
            self.assertIsNone(fault_in_order(web, order[:rng.randint(0, len(order))]))

    def test_lists_are_new(self):
        for function in (opening_order, knot, waves):
            self.assert_new_list(function, WEB)

    def test_large_webs(self):
        web = chain_of_doubles(149)
        backward = list(range(150))[::-1]
        self.assertEqual(backward, opening_order(web))
        self.assertEqual([[place] for place in backward], waves(web))
        self.assertEqual([], knot(web))
        self.assertIsNone(fault_in_order(web, backward))
        self.assertEqual([(place, [list(range(place))] if place else []) for place in backward], list(openings(web)))
        rng = random.Random(41)
        for sides in (2, 3, 4):
            web = random_web(rng, 200, 300, sides)
            order, rest = slow_order(web)
            self.assertEqual((order, rest), (opening_order(web), knot(web)))

    def test_all_hinges_at_once(self):
        web = Web([2] * 200, [(k, 1, k + 1, 0) for k in range(199)])
        self.assertEqual([list(range(1, 199))], waves(web))
        self.assertEqual(list(range(1, 199)), opening_order(web))


class FaultTests(unittest.TestCase, Cases):
    def test_orders_without_fault(self):
        self.assertIsNone(fault_in_order(WEB, []))
        self.assertIsNone(fault_in_order(WEB, (2,)))

    def test_entries_that_cannot_be_opened(self):
        for wrong in (0, 1, 2, 3, -1, 10 ** 20):
            self.assertEqual(1, fault_in_order(WEB, [2, wrong, 99]))
        for wrong in (0, 1, 3, -1, 10 ** 20):
            self.assertEqual(0, fault_in_order(WEB, [wrong, 2]))

    def test_a_place_that_is_no_joint(self):
        web = Web([2, 1, 1], [(0, 0, 1, 0), (0, 1, 2, 0)])
        self.assertIsNone(fault_in_order(web, [0]))
        self.assertEqual(1, fault_in_order(web, [0, 1]))

    def test_against_hinges(self):
        rng = random.Random(42)
        for web in small_webs(150, 42):
            order = [rng.randrange(-1, 8) for _ in range(3)] if rng.random() < 0.3 else opening_order(web)
            order = order[:1] + order[2:] + order[1:2]
            shut, expected = list(web.joints), None
            for index, place in enumerate(order):
                if place not in shut or place not in hinges(web, shut):
                    expected = index
                    break
                shut.remove(place)
            self.assertEqual(expected, fault_in_order(web, order))

    def test_arguments_stay(self):
        order = [2, 0]
        fault_in_order(WEB, order)
        self.assertEqual([2, 0], order)


class GroupsBesideTests(unittest.TestCase):
    def test_groups_while_opening(self):
        for web in small_webs(100, 43, most_places=8, most_ties=10):
            shut = list(web.joints)
            found = list(openings(web))
            self.assertEqual(opening_order(web), [place for place, _ in found])
            for place, groups in found:
                shut.remove(place)
                self.assertEqual(grouped(shut, [(tie[0], tie[2]) for tie in web.ties]), groups)

    def test_it_is_a_generator_whose_lists_are_new(self):
        web = chain_of_doubles(3)
        expected = list(openings(web))
        self.assertEqual([(3, [[0, 1, 2]]), (2, [[0, 1]]), (1, [[0]]), (0, [])], expected)
        self.assertIs(tuple, expected[0].__class__)
        started = openings(web)
        first = next(started)
        first[1][0].clear()
        first[1].clear()
        self.assertEqual(expected[1:], list(started))
        self.assertEqual(expected, list(openings(web)))


if __name__ == "__main__":
    unittest.main()
