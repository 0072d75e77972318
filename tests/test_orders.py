"""Points 32 and 33: what must precede what, openable sets, and the number of orders."""

import unittest

from helpers import Cases, chain_of_doubles, small_webs

from comesapart.errors import TooLarge
from comesapart.hinges import NotAJoint, hinges
from comesapart.openings import knot, opening_order
from comesapart.orders import NeverOpened, count_orders, forerunners, must_precede, openable_sets
from comesapart.webs import Web

# Place 2 can be opened, 0 and 1 are in the knot, and 3 is no joint.
KNOTTED = Web([2, 2, 2, 1], [(0, 0, 1, 0), (0, 1, 1, 1), (1, 0, 2, 0), (2, 1, 3, 0)])
# A cycle 0, 1, 2 that turns at 0 alone: opening 1 or 2 frees 0, and neither must come first.
EITHER = Web([2, 2, 2, 1], [(0, 0, 1, 0), (1, 0, 2, 0), (2, 0, 0, 1), (1, 1, 3, 0), (2, 1, 3, 0)])


def star(joints):
    """Return a web with so many joints, all of which are hinges, in any order."""
    return Web([2] * joints + [1], [(place, side, joints, 0) for place in range(joints) for side in (0, 1)])


def all_orders(web):
    """Return all opening orders, by the words of the document."""
    found = [[]]
    for order in found:
        shut = [place for place in web.joints if place not in order]
        found += [order + [place] for place in hinges(web, shut)]
    return found


class PrecedeTests(unittest.TestCase, Cases):
    def test_chain(self):
        web = chain_of_doubles(3)
        for first in range(4):
            for second in range(4):
                self.assertIs(first > second, must_precede(web, first, second))
            self.assertEqual(list(range(first + 1, 4)), forerunners(web, first))

    def test_either(self):
        self.assertEqual([1, 0, 2], opening_order(EITHER))
        for first in range(3):
            for second in range(3):
                self.assertIs(False, must_precede(EITHER, first, second))
            self.assertEqual([], forerunners(EITHER, first))

    def test_a_joint_does_not_precede_itself(self):
        self.assertIs(False, must_precede(KNOTTED, 2, 2))

    def test_the_first_may_be_in_the_knot(self):
        self.assertIs(False, must_precede(KNOTTED, 0, 2))
        self.assertEqual([], forerunners(KNOTTED, 2))

    def test_never_opened(self):
        for place in (0, 1):
            self.assert_raises(NeverOpened, {"place": place}, must_precede, KNOTTED, 2, place)
            self.assert_raises(NeverOpened, {"place": place}, must_precede, KNOTTED, place, place)
            self.assert_raises(NeverOpened, {"place": place}, must_precede, KNOTTED, 0, place)
            self.assert_raises(NeverOpened, {"place": place}, forerunners, KNOTTED, place)

    def test_not_a_joint(self):
        for place in (3, 4, -1, 10 ** 20):
            self.assert_raises(NotAJoint, {"place": place}, must_precede, KNOTTED, place, 99)
            self.assert_raises(NotAJoint, {"place": place}, must_precede, KNOTTED, place, 0)
            self.assert_raises(NotAJoint, {"place": place}, must_precede, KNOTTED, 0, place)
            self.assert_raises(NotAJoint, {"place": place}, must_precede, KNOTTED, place, place)
            self.assert_raises(NotAJoint, {"place": place}, forerunners, KNOTTED, place)
        self.assertTrue(issubclass(NeverOpened, ValueError))

    def test_against_all_orders(self):
        for web in small_webs(150, 44, most_places=5, most_ties=8):
            orders = all_orders(web)
            for second in opening_order(web):
                opening = [order for order in orders if order[-1:] == [second]]
                first_places = [place for place in web.joints if place != second
                                and all(place in order for order in opening)]
                self.assertEqual(first_places, forerunners(web, second))
                for first in web.joints:
                    self.assertEqual(first in first_places, must_precede(web, first, second))

    def test_lists_are_new(self):
        self.assert_new_list(forerunners, chain_of_doubles(3), 0)

    def test_large_web(self):
        web = chain_of_doubles(149)
        self.assertEqual(list(range(1, 150)), forerunners(web, 0))
        self.assertIs(True, must_precede(web, 149, 0))
        self.assertIs(False, must_precede(web, 0, 149))


class SetTests(unittest.TestCase, Cases):
    def test_openable_sets(self):
        self.assertEqual([[], [2]], openable_sets(KNOTTED))
        self.assertEqual([[], [3], [2, 3], [1, 2, 3], [0, 1, 2, 3]], openable_sets(chain_of_doubles(3)))
        self.assertEqual([[], [1], [2], [0, 1], [0, 2], [1, 2], [0, 1, 2]], openable_sets(EITHER))

    def test_count_orders(self):
        self.assertEqual([1, 1, 4], [count_orders(web) for web in (KNOTTED, chain_of_doubles(3), EITHER)])

    def test_without_joints_outside_the_knot(self):
        for web in (Web.empty(), Web([4], []), Web([2], [(0, 0, 0, 1)])):
            self.assertEqual(([[]], 1), (openable_sets(web), count_orders(web)))

    def test_limit(self):
        self.assertEqual(1024, len(openable_sets(star(10))))
        self.assertEqual(3628800, count_orders(star(10)))
        for function in (openable_sets, count_orders):
            self.assert_raises(TooLarge, {"limit": 10}, function, star(11))
            self.assert_raises(TooLarge, {"limit": 10}, function, Web([2] * 11, [(k, 0, k, 1) for k in range(11)]))

    def test_against_all_orders(self):
        for web in small_webs(150, 45, most_places=5, most_ties=8):
            orders = all_orders(web)
            sets = {tuple(sorted(order)) for order in orders}
            self.assertEqual([list(item) for item in sorted(sets, key=lambda item: (len(item), item))],
                             openable_sets(web))
            longest = len(web.joints) - len(knot(web))
            self.assertEqual(len([order for order in orders if len(order) == longest]), count_orders(web))

    def test_lists_are_new(self):
        self.assert_new_list(openable_sets, EITHER)


if __name__ == "__main__":
    unittest.main()
