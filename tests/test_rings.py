"""Point 23: rings and heights."""

import itertools
import unittest

from helpers import Cases, chain_of_doubles, small_webs, steps_of

from comesapart.followers import followers
from comesapart.rings import find_ring, heights, is_ring
from comesapart.webs import Web

# From place 0 the tie 0 leads to a loop on two sides of place 1; so a ring walks tie 0 in both directions.
BOUNCE = Web([2, 3], [(0, 0, 1, 0), (1, 1, 1, 2), (0, 1, 0, 1), (0, 1, 0, 1)])
CHAIN = Web([2] * 200, [(k, 1, k + 1, 0) for k in range(199)])


def ring_by_words(web, steps):
    if not steps or len(set(steps)) < len(steps) or any(step not in steps_of(web) for step in steps):
        return False
    return all(step in followers(web, steps[index - 1]) for index, step in enumerate(steps))


class RingTests(unittest.TestCase, Cases):
    def test_is_ring(self):
        web = Web([2, 2], [(0, 0, 1, 0), (1, 1, 0, 1), (1, 0, 0, 1)])
        self.assertIs(True, is_ring(web, [(0, 0), (1, 0)]))
        self.assertIs(True, is_ring(web, ((1, 1), (0, 1))))
        self.assertIs(False, is_ring(web, [(0, 0), (2, 0)]))
        self.assertIs(True, is_ring(Web([2], [(0, 0, 0, 1)]), [(0, 1)]))
        self.assertIs(False, is_ring(Web([2], [(0, 0, 0, 0)]), [(0, 1)]))

    def test_a_ring_may_walk_a_tie_both_ways(self):
        steps = [(0, 0), (1, 0), (0, 1), (2, 0)]
        self.assertIs(True, is_ring(BOUNCE, steps))
        self.assertIs(False, is_ring(BOUNCE, steps + steps))

    def test_lists_that_are_no_rings(self):
        for steps in ([], (), [(0, 0)], [(4, 0)], [(-1, 0)], [(1, 2)], [(1, -1)], [(10 ** 20, 0)], [(1, 0), (9, 0)],
                      [(1, 0), (1, 0)], [(1, 0), (1, 1)], [(0, 0), (1, 0), (0, 1)], [(1, 0), (0, 1), (2, 0)]):
            self.assertIs(False, is_ring(BOUNCE, steps), steps)
        self.assertIs(False, is_ring(Web.empty(), [(0, 0)]))

    def test_against_the_words_of_the_document(self):
        for web in small_webs(40, 31, most_ties=4):
            for size in (1, 2, 3):
                for steps in itertools.product(steps_of(web), repeat=size):
                    self.assertEqual(ring_by_words(web, list(steps)), is_ring(web, list(steps)))

    def test_find_ring(self):
        with_ring = 0
        for web in small_webs(200, 32):
            ring = find_ring(web)
            self.assertEqual(ring is None, heights(web) is not None)
            if ring is not None:
                with_ring += 1
                self.assertIs(list, ring.__class__)
                self.assertTrue(ring_by_words(web, ring))
        self.assertTrue(30 < with_ring < 170, with_ring)

    def test_find_ring_in_plain_webs(self):
        for web in (Web.empty(), Web([4], []), Web([1], [(0, 0, 0, 0)]), CHAIN):
            self.assertIsNone(find_ring(web))
        self.assertTrue(is_ring(BOUNCE, find_ring(BOUNCE)))

    def test_lists_are_new(self):
        self.assert_new_list(find_ring, BOUNCE)
        self.assert_new_list(heights, CHAIN)


class HeightTests(unittest.TestCase):
    def test_example_of_the_document(self):
        self.assertEqual([2, 1, 1, 2], heights(Web([2, 2, 1], [(0, 0, 1, 0), (1, 1, 2, 0)])))

    def test_without_ties(self):
        self.assertEqual([], heights(Web.empty()))
        self.assertEqual([], heights(Web([4, 4], [])))

    def test_with_a_ring(self):
        self.assertIsNone(heights(BOUNCE))
        self.assertIsNone(heights(Web([2], [(0, 0, 0, 1)])))

    def test_large_webs(self):
        expected = [number for tie in range(199) for number in (199 - tie, tie + 1)]
        self.assertEqual(expected, heights(CHAIN))
        closed = Web(CHAIN.sides, CHAIN.ties + ((199, 1, 0, 0),))
        self.assertIsNone(heights(closed))
        self.assertEqual(200, len(find_ring(closed)))
        # The longest walk goes back along all doubles, turns at place 0 and comes all the way again.
        self.assertEqual(300, max(heights(chain_of_doubles(149))))

    def test_against_recursion(self):
        for web in small_webs(150, 33, most_sides=2):
            found = heights(web)
            if found is not None:
                self.assertEqual([self.height(web, step) for step in steps_of(web)], found)

    def height(self, web, step):
        return 1 + max((self.height(web, after) for after in followers(web, step)), default=0)


if __name__ == "__main__":
    unittest.main()
