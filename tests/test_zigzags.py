"""Points 25 and 27: neighbours and zigzags."""

import itertools
import unittest

from helpers import Cases, small_webs, steps_of

from comesapart.errors import UnknownTie
from comesapart.facings import facing
from comesapart.webs import Web
from comesapart.zigzags import is_zigzag, neighbours, zigzag

# Ties on three sides of place 0, and a loop on its side 0.
WEB = Web([3, 1, 1], [(0, 0, 1, 0), (2, 0, 0, 1), (0, 2, 1, 0), (0, 0, 0, 0)])


def neighbours_by_words(web, end):
    place, side = web.tail(end)
    return [other for other in steps_of(web) if (other[0] == end[0] and other[1] != end[1])
            or (web.tail(other)[0] == place and web.tail(other)[1] != side)]


class NeighbourTests(unittest.TestCase, Cases):
    def test_neighbours(self):
        self.assertEqual([(0, 1), (1, 1), (2, 0)], neighbours(WEB, (0, 0)))
        self.assertEqual([(0, 0)], neighbours(WEB, (0, 1)))
        self.assertEqual([(1, 1), (2, 0), (3, 1)], neighbours(WEB, (3, 0)))

    def test_loop_on_two_sides_counts_once(self):
        self.assertEqual([(0, 1)], neighbours(Web([2], [(0, 0, 0, 1)]), (0, 0)))

    def test_against_the_words_of_the_document(self):
        for web in small_webs(60, 35):
            for end in steps_of(web):
                self.assertEqual(neighbours_by_words(web, end), neighbours(web, end))

    def test_unknown_tie(self):
        for tie in (4, -1, 10 ** 20):
            for which in (0, 1):
                self.assert_raises(UnknownTie, {"tie": tie}, neighbours, WEB, (tie, which))
        self.assert_raises(UnknownTie, {"tie": 0}, neighbours, Web([2], []), (0, 0))

    def test_lists_are_new(self):
        self.assert_new_list(neighbours, WEB, (0, 0))


class ZigzagTests(unittest.TestCase, Cases):
    def test_is_zigzag(self):
        self.assertIs(True, is_zigzag(WEB, [(0, 0), (1, 1), (2, 0)]))
        self.assertIs(True, is_zigzag(WEB, ((2, 0), (0, 0), (1, 1))))
        self.assertIs(True, is_zigzag(WEB, [(3, 0), (3, 1), (1, 1)]))
        self.assertIs(True, is_zigzag(WEB, [(0, 0), (0, 1), (0, 0), (1, 1), (2, 0)]))
        self.assertIs(True, is_zigzag(WEB, [(0, 0), (1, 1), (2, 0)] * 3))

    def test_lists_that_are_no_zigzags(self):
        for ends in ([], [(0, 0)], [(0, 0), (1, 1)], [(0, 0), (0, 1)], [(0, 0), (1, 1), (0, 1)],
                     [(0, 0), (1, 1), (4, 0)], [(-1, 0), (1, 1), (2, 0)], [(0, 2), (1, 1), (2, 0)], [(9, 0)],
                     [(0, 0), (1, 1), (2, -1)], [(10 ** 20, 0), (1, 1), (2, 0)], [(0, 0), (1, 1), (2, 0), (0, 0)],
                     [(0, 0), (1, 1), (2, 0), (0, 0), (2, 1)], [(0, 0), (1, 1), (2, 0)] * 2):
            self.assertIs(False, is_zigzag(WEB, ends), ends)
        self.assertIs(False, is_zigzag(Web.empty(), [(0, 0)]))

    def test_against_the_words_of_the_document(self):
        for web in small_webs(40, 36, most_ties=3):
            for size in (1, 2, 3):
                for ends in itertools.product(steps_of(web), repeat=size):
                    right = all(end in neighbours_by_words(web, ends[index - 1]) for index, end in enumerate(ends))
                    self.assertEqual(size % 2 == 1 and right, is_zigzag(web, list(ends)))

    def test_zigzag(self):
        found = 0
        for web in small_webs(300, 37):
            ends = zigzag(web)
            self.assertEqual(ends is None, facing(web) is not None)
            if ends is not None:
                found += 1
                self.assertIs(list, ends.__class__)
                self.assertEqual(1, len(ends) % 2)
                self.assertLessEqual(len(ends), 4 * len(web.ties))
                for index, end in enumerate(ends):
                    self.assertIn(end, neighbours_by_words(web, ends[index - 1]))
        self.assertTrue(30 < found < 270, found)

    def test_webs_without_zigzag(self):
        for web in (Web.empty(), Web([4], []), Web([1], [(0, 0, 0, 0)]), Web([2], [(0, 0, 0, 1)])):
            self.assertIsNone(zigzag(web))

    def test_large_webs(self):
        ties = [(k, 1, k + 1, 0) for k in range(199)] + [(199, 1, 199, 1)] * 101
        web = Web([2] * 200, ties)
        self.assertTrue(is_zigzag(web, zigzag(web)))
        self.assertLessEqual(len(zigzag(web)), 1200)
        many = Web([4], [(0, k % 4, 0, (k + 1) % 4) for k in range(300)])
        self.assertTrue(is_zigzag(many, zigzag(many)))

    def test_lists_are_new(self):
        self.assert_new_list(zigzag, WEB)


if __name__ == "__main__":
    unittest.main()
