"""The counts and the table of the sides of a web."""

import unittest

from helpers import small_webs

from comesapart.listing import end_counts, side_table
from comesapart.webs import Web

WEB = Web([3, 1, 2], [(0, 0, 0, 2), (1, 0, 1, 0), (1, 0, 0, 2), (2, 1, 1, 0)])


class ListingTests(unittest.TestCase):
    def test_end_counts(self):
        self.assertEqual([[1, 0, 2], [4], [0, 1]], end_counts(WEB))
        self.assertEqual([], end_counts(Web.empty()))
        self.assertEqual([[0, 0, 0, 0]], end_counts(Web([4], [])))

    def test_end_counts_against_steps(self):
        for web in small_webs(40, 11, most_sides=4):
            for place, counts in enumerate(end_counts(web)):
                self.assertEqual(web.sides[place], len(counts))
                used = [web.tail(step)[1] for step in web.steps_from(place)]
                self.assertEqual([used.count(side) for side in range(web.sides[place])], counts)

    def test_lists_are_new(self):
        end_counts(WEB)[0][0] = 9
        self.assertEqual([[1, 0, 2], [4], [0, 1]], end_counts(WEB))
        side_table(WEB).clear()
        self.assertEqual(3, len(side_table(WEB)))

    def test_side_table(self):
        self.assertEqual(["   0   1   0   2 joint", "   1   4", "   2   0   1"], side_table(WEB))
        self.assertEqual([], side_table(Web.empty()))

    def test_wide_numbers(self):
        web = Web([1] * 200, [(199, 0, 199, 0)] * 300)
        self.assertEqual(" 199 600", side_table(web)[199])
        self.assertEqual("  99   0", side_table(web)[99])


if __name__ == "__main__":
    unittest.main()
