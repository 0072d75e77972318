"""Points 28 and 29: groups beside a place, touched sides and hinges."""

import random
import unittest

from helpers import Cases, chain_of_doubles, random_web, small_webs

from comesapart.hinges import NotAJoint, NotShut, groups_without, hinges, is_hinge, touched_sides
from comesapart.webs import Web

# Place 0 has two ties to 1 on different sides; 1 has them on one side. 2 hangs on both sides of 1. 4 is no joint.
WEB = Web([2, 2, 2, 3, 1], [(0, 0, 1, 0), (0, 1, 1, 0), (1, 0, 2, 0), (2, 1, 1, 1), (3, 0, 3, 0), (3, 1, 3, 1),
                            (3, 2, 4, 0)])


def hinge_by_words(web, shut, place):
    """Look for walks in the other shut places that join two sides of the place."""
    for one, side, other, far_side in web.ties:
        if one == other == place and side != far_side:
            return False
    for first in web.steps_from(place):
        met = [web.head(first)[0]] if web.head(first)[0] != place else []
        for here in met:
            for step in web.steps_from(here) if here in shut else []:
                there, side = web.head(step)
                if there == place and side != web.tail(first)[1]:
                    return False
                if there != place and there not in met:
                    met.append(there)
    return True


class GroupTests(unittest.TestCase, Cases):
    def test_groups_without(self):
        self.assertEqual([[1, 2], [3]], groups_without(WEB, [0, 1, 2, 3], 0))
        self.assertEqual([[0], [2], [3]], groups_without(WEB, [3, 2, 1, 0], 1))
        self.assertEqual([[0], [2]], groups_without(WEB, (0, 2, 3), 3))
        self.assertEqual([], groups_without(WEB, [3], 3))

    def test_touched_sides(self):
        self.assertEqual([0, 1], touched_sides(WEB, [1, 2], 0))
        self.assertEqual([0], touched_sides(WEB, [0], 1))
        self.assertEqual([0, 1], touched_sides(WEB, (2, 0), 1))
        self.assertEqual([], touched_sides(WEB, [0, 1, 2], 3))
        self.assertEqual([2], touched_sides(WEB, [4, 0], 3))
        self.assertEqual([], touched_sides(WEB, [], 0))

    def test_lists_are_new(self):
        self.assert_new_list(groups_without, WEB, [3, 2, 1, 0], 0)
        self.assert_new_list(touched_sides, WEB, [2, 1], 0)
        self.assert_new_list(hinges, WEB, [3, 2, 1, 0])

    def test_errors(self):
        for function in (groups_without, is_hinge):
            for place in (4, 5, -1, 10 ** 20):
                self.assert_raises(NotAJoint, {"place": place}, function, WEB, [0, place, 99], 0)
                self.assert_raises(NotAJoint, {"place": place}, function, WEB, [0, place], 1)
                self.assert_raises(NotAJoint, {"place": place}, function, WEB, [place], place)
                self.assert_raises(NotShut, {"place": place}, function, WEB, [0, 1], place)
            self.assert_raises(NotShut, {"place": 2}, function, WEB, [0, 1], 2)
            self.assert_raises(NotShut, {"place": 0}, function, WEB, [], 0)
        for place in (4, 5, -1, 10 ** 20):
            self.assert_raises(NotAJoint, {"place": place}, hinges, WEB, [0, place, 99])
        self.assertTrue(issubclass(NotAJoint, ValueError) and issubclass(NotShut, ValueError))


class HingeTests(unittest.TestCase, Cases):
    def test_is_hinge(self):
        self.assertEqual([False, False, False, True], [is_hinge(WEB, [0, 1, 2, 3], place) for place in range(4)])
        self.assertIs(True, is_hinge(WEB, (0, 2), 0))
        self.assertEqual([3], hinges(WEB, [3, 2, 1, 0]))
        self.assertEqual([0, 3], hinges(WEB, (3, 0)))
        self.assertEqual([1], hinges(WEB, [1]))
        self.assertEqual([], hinges(WEB, []))

    def test_different_groups_may_touch_different_sides(self):
        star = Web([2, 2, 2, 1, 1], [(0, 0, 1, 0), (0, 1, 2, 0), (1, 1, 3, 0), (2, 1, 4, 0)])
        self.assertEqual([0, 1, 2], hinges(star, [0, 1, 2]))

    def test_loops(self):
        self.assertEqual([], hinges(Web([2], [(0, 0, 0, 1)]), [0]))
        self.assertIs(False, is_hinge(Web([2], [(0, 1, 0, 0)]), [0], 0))
        self.assertEqual([0], hinges(Web([2], [(0, 0, 0, 0), (0, 1, 0, 1)]), [0]))

    def test_places_that_are_not_shut_do_not_connect(self):
        # A turning cycle over place 2, which is no joint.
        web = Web([2, 2, 1], [(0, 0, 1, 0), (1, 1, 2, 0), (2, 0, 0, 1)])
        self.assertEqual([0, 1], hinges(web, [0, 1]))

    def test_against_the_words_of_the_document(self):
        rng = random.Random(29)
        for web in small_webs(300, 29, most_places=7, most_ties=10):
            shut = rng.sample(web.joints, rng.randint(0, len(web.joints)))
            expected = [place for place in sorted(shut) if hinge_by_words(web, shut, place)]
            self.assertEqual(expected, hinges(web, shut))
            self.assertEqual(expected, [place for place in sorted(shut) if is_hinge(web, shut, place)])

    def test_large_webs_against_the_words_of_the_document(self):
        rng = random.Random(30)
        for sides in (2, 3, 4):
            web = random_web(rng, 200, 300, sides)
            expected = [place for place in web.joints if hinge_by_words(web, web.joints, place)]
            self.assertEqual(expected, hinges(web, web.joints))
            self.assertEqual(expected, [place for place in web.joints if is_hinge(web, web.joints, place)])

    def test_a_hinge_stays_a_hinge(self):
        rng = random.Random(31)
        for web in small_webs(100, 30, most_places=7, most_ties=10):
            shut = list(web.joints)
            for place in hinges(web, shut):
                fewer = [place] + [other for other in shut if other != place and rng.random() < 0.5]
                self.assertIn(place, hinges(web, fewer))

    def test_only_the_last_of_a_chain(self):
        web = chain_of_doubles(149)
        self.assertEqual(tuple(range(150)), web.joints)
        self.assertEqual([149], hinges(web, web.joints))


if __name__ == "__main__":
    unittest.main()
