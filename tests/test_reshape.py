"""Points 16 to 20: webs that are made from other webs."""

import itertools
import random
import unittest

from helpers import Cases, all_turning_cycles, small_webs

from comesapart.errors import TooLarge, UnknownPlace
from comesapart.reshape import NotAPermutation, detached, leafed, renumbered, restricted, web_parts
from comesapart.webs import Web

WEB = Web([2, 1, 3], [(0, 0, 0, 1), (0, 1, 1, 0), (2, 2, 1, 0), (2, 2, 1, 0)])
# 100 ties, all on one side of place 0; so 100 new places arise when it is detached.
STAR = Web([1] * 101, [(0, 0, k + 1, 0) for k in range(100)])


class RenumberedTests(unittest.TestCase, Cases):
    def test_places(self):
        expected = Web([1, 3, 2], [(2, 0, 2, 1), (2, 1, 0, 0), (1, 2, 0, 0), (1, 2, 0, 0)])
        self.assertEqual(expected, renumbered(WEB, places=[2, 0, 1]))

    def test_ties(self):
        expected = Web([2, 1, 3], [(2, 2, 1, 0), (0, 0, 0, 1), (2, 2, 1, 0), (0, 1, 1, 0)])
        self.assertEqual(expected, renumbered(WEB, ties=[1, 3, 0, 2]))

    def test_places_and_ties(self):
        both = renumbered(WEB, places=[2, 0, 1], ties=[1, 3, 0, 2])
        self.assertEqual(renumbered(renumbered(WEB, places=(2, 0, 1)), ties=(1, 3, 0, 2)), both)

    def test_numbers_that_stay(self):
        self.assertEqual(WEB, renumbered(WEB))
        self.assertEqual(WEB, renumbered(WEB, places=None, ties=None))
        self.assertEqual(WEB, renumbered(WEB, places=[0, 1, 2], ties=[0, 1, 2, 3]))
        self.assertEqual(Web.empty(), renumbered(Web.empty(), places=[], ties=[]))

    def test_not_a_permutation(self):
        for wrong in ([], [0], [0, 1], [0, 1, 1], [0, 1, 3], [1, 2, 3], [-1, 0, 1], [0, 1, 2, 3], [0, 1, 2, 2],
                      [10 ** 20, 1, 0]):
            self.assert_raises(NotAPermutation, {}, renumbered, WEB, places=wrong)
        for wrong in ([], [0, 1, 2], [0, 1, 2, 2], [1, 2, 3, 4], [-1, 0, 1, 2], [0, 1, 2, 3, 4]):
            self.assert_raises(NotAPermutation, {}, renumbered, WEB, ties=wrong)
            self.assert_raises(NotAPermutation, {}, renumbered, WEB, places=[2, 1, 0], ties=wrong)
        self.assert_raises(NotAPermutation, {}, renumbered, Web.empty(), places=[0])
        self.assert_raises(NotAPermutation, {}, renumbered, Web.empty(), ties=[0])

    def test_there_and_back(self):
        rng = random.Random(16)
        for web in small_webs(50, 16):
            places = rng.sample(range(len(web.sides)), len(web.sides))
            ties = rng.sample(range(len(web.ties)), len(web.ties))
            there = renumbered(web, places=places, ties=ties)
            for place, number in enumerate(places):
                self.assertEqual(web.sides[place], there.sides[number])
            for tie, (one, side, other, far_side) in enumerate(web.ties):
                self.assertEqual((places[one], side, places[other], far_side), there.ties[ties[tie]])
            back = renumbered(there, places=[places.index(k) for k in range(len(places))],
                              ties=[ties.index(k) for k in range(len(ties))])
            self.assertEqual(web, back)

    def test_arguments_stay(self):
        places = [2, 0, 1]
        renumbered(WEB, places=places)
        self.assertEqual([2, 0, 1], places)


class RestrictedTests(unittest.TestCase, Cases):
    def test_order_of_the_kept_places(self):
        self.assertEqual(Web([3, 1], [(0, 2, 1, 0), (0, 2, 1, 0)]), restricted(WEB, [2, 1]))
        self.assertEqual(Web([1, 2], [(1, 0, 1, 1), (1, 1, 0, 0)]), restricted(WEB, (1, 0)))

    def test_all_and_none(self):
        self.assertEqual(WEB, restricted(WEB, [0, 1, 2]))
        self.assertEqual(Web.empty(), restricted(WEB, []))
        self.assertEqual(Web([3], []), restricted(WEB, [2]))

    def test_first_unknown_place(self):
        for place in (3, -1, 10 ** 20):
            self.assert_raises(UnknownPlace, {"place": place}, restricted, WEB, [0, place, 99])


class DetachedTests(unittest.TestCase, Cases):
    def test_example_of_the_document(self):
        web = detached(Web([2, 1], [(0, 0, 0, 1), (0, 1, 1, 0)]), 0)
        self.assertEqual(((2, 1, 1, 1, 1), ((2, 0, 3, 0), (4, 0, 1, 0))), (web.sides, web.ties))

    def test_several_ties(self):
        expected = Web([2, 1, 3, 1, 1, 1], [(0, 0, 0, 1), (0, 1, 3, 0), (2, 2, 4, 0), (2, 2, 5, 0)])
        self.assertEqual(expected, detached(WEB, 1))

    def test_place_without_ends(self):
        self.assertEqual(Web([4], []), detached(Web([4], []), 0))

    def test_unknown_place(self):
        for place in (3, -1, 10 ** 20):
            self.assert_raises(UnknownPlace, {"place": place}, detached, WEB, place)

    def test_limit(self):
        full = Web([1] * 199, [(0, 0, 198, 0)])
        self.assertEqual(200, len(detached(full, 0).sides))
        self.assert_raises(TooLarge, {"limit": 200}, detached, detached(full, 0), 198)
        self.assertEqual(200, len(detached(detached(full, 0), 1).sides))
        self.assert_raises(UnknownPlace, {"place": 200}, detached, detached(full, 0), 200)


class LeafedTests(unittest.TestCase, Cases):
    def test_which_places_are_detached(self):
        # Place 0 is a joint, 1 has two ends on one side, 2 has a loop on one side, 3 has one end, 4 has none.
        web = Web([2, 2, 1, 1, 1], [(0, 0, 1, 1), (2, 0, 2, 0), (3, 0, 0, 1), (1, 1, 0, 1)])
        expected = Web([2, 2, 1, 1, 1, 1, 1, 1, 1], [(0, 0, 5, 0), (7, 0, 8, 0), (3, 0, 0, 1), (6, 0, 0, 1)])
        self.assertEqual(expected, leafed(web))

    def test_nothing_to_detach(self):
        for web in (Web.empty(), Web([4], []), Web([2], [(0, 0, 0, 1)]), leafed(WEB)):
            self.assertEqual(web, leafed(web))

    def test_limit(self):
        self.assert_raises(TooLarge, {"limit": 200}, leafed, STAR)
        smaller = Web([1] * 100, STAR.ties[:99])
        self.assertEqual(199, len(leafed(smaller).sides))
        self.assertEqual(200, len(leafed(smaller + Web([1], [])).sides))
        self.assert_raises(TooLarge, {"limit": 200}, leafed, smaller + Web([1, 1], []))

    def test_same_turning_cycles(self):
        for web in small_webs(80, 19):
            self.assertEqual(all_turning_cycles(web), all_turning_cycles(leafed(web)))


class PartTests(unittest.TestCase, Cases):
    def test_parts(self):
        web = Web([2, 2, 2, 2, 1], [(3, 0, 0, 1), (1, 0, 1, 1), (0, 0, 2, 0)])
        self.assertEqual([[0, 2, 3], [1], [4]], web_parts(web))

    def test_sides_do_not_matter(self):
        self.assertEqual([[0, 1, 2]], web_parts(Web([2, 1, 1], [(0, 0, 1, 0), (0, 1, 2, 0)])))

    def test_empty_web(self):
        self.assertEqual([], web_parts(Web.empty()))

    def test_lists_are_new(self):
        web = Web([1, 1], [(0, 0, 1, 0)])
        web_parts(web)[0].append(9)
        self.assertEqual([[0, 1]], web_parts(web))

    def test_large_web(self):
        web = Web([1] * 200, [(k, 0, k + 2, 0) for k in range(198)])
        self.assertEqual([list(range(0, 200, 2)), list(range(1, 200, 2))], web_parts(web))

    def test_against_pairs(self):
        for web in small_webs(30, 20):
            parts = web_parts(web)
            self.assertEqual(list(range(len(web.sides))), sorted(itertools.chain(*parts)))
            for part in parts:
                inside = {tie for tie in web.ties if tie[0] in part or tie[2] in part}
                self.assertTrue(all(tie[0] in part and tie[2] in part for tie in inside))


if __name__ == "__main__":
    unittest.main()
