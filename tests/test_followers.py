"""Points 21 and 22: followers and turning walks."""

import itertools
import unittest

from helpers import Cases, chain_of_doubles, small_webs, steps_of

from comesapart.errors import UnknownTie
from comesapart.followers import followers, reached, shortest_walk, walks
from comesapart.webs import Web

WEB = Web([2, 1], [(0, 0, 0, 1), (0, 1, 1, 0)])
# A ladder without a ring: many walks of 1 to 40 steps, none longer.
LADDER = Web([2] * 41, [tie for k in range(40) for tie in ((k, 1, k + 1, 0), (k, 1, k + 1, 0))])


def slow_walks(web, first, length):
    """All turning walks by the words of the document."""
    found = [[first]]
    for _ in range(length - 1):
        found = [walk + [step] for walk in found for step in steps_of(web)
                 if web.tail(step)[0] == web.head(walk[-1])[0] and web.tail(step)[1] != web.head(walk[-1])[1]]
    return sorted(found)


class FollowerTests(unittest.TestCase, Cases):
    def test_followers(self):
        self.assertEqual([(0, 0)], followers(WEB, (0, 0)))
        self.assertEqual([(0, 1), (1, 0)], followers(WEB, (0, 1)))
        self.assertEqual([], followers(WEB, (1, 0)))
        self.assertEqual([(0, 0)], followers(WEB, (1, 1)))

    def test_loop_on_one_side(self):
        web = Web([3], [(0, 1, 0, 1), (0, 0, 0, 2)])
        self.assertEqual([(1, 0), (1, 1)], followers(web, (0, 0)))
        self.assertEqual([(0, 0), (0, 1), (1, 0)], followers(web, (1, 0)))

    def test_against_the_words_of_the_document(self):
        for web in small_webs(60, 21):
            for first in steps_of(web):
                longer = slow_walks(web, first, 2)
                self.assertEqual([walk[1] for walk in longer], followers(web, first))

    def test_unknown_ties(self):
        for tie in (2, -1, 10 ** 20):
            for direction in (0, 1):
                step = (tie, direction)
                self.assert_raises(UnknownTie, {"tie": tie}, followers, WEB, step)
                self.assert_raises(UnknownTie, {"tie": tie}, reached, WEB, step)
                self.assert_raises(UnknownTie, {"tie": tie}, shortest_walk, WEB, step, (9, 0))
                self.assert_raises(UnknownTie, {"tie": tie}, shortest_walk, WEB, (0, 0), step)
                self.assert_raises(UnknownTie, {"tie": tie}, shortest_walk, WEB, step, step)
        self.assert_raises(UnknownTie, {"tie": 0}, followers, Web([2], []), (0, 0))

    def test_lists_are_new(self):
        self.assert_new_list(followers, WEB, (0, 1))
        self.assert_new_list(reached, WEB, (0, 1))
        self.assert_new_list(shortest_walk, WEB, (0, 1), (1, 0))


class WalkTests(unittest.TestCase, Cases):
    def test_example_of_the_document(self):
        self.assertEqual([[(1, 1), (0, 0), (0, 0)]], list(walks(WEB, (1, 1), 3)))

    def test_one_step(self):
        self.assertEqual([[(1, 0)]], list(walks(WEB, (1, 0), 1)))
        self.assertEqual([], list(walks(WEB, (1, 0), 2)))

    def test_against_the_words_of_the_document(self):
        for web in small_webs(40, 22, most_ties=5):
            for first in steps_of(web):
                for length in range(1, 5):
                    self.assertEqual(slow_walks(web, first, length), list(walks(web, first, length)))

    def test_the_error_comes_when_the_iteration_begins(self):
        for tie in (2, -1):
            started = walks(WEB, (tie, 0), 3)
            self.assert_raises(UnknownTie, {"tie": tie}, next, started)

    def test_it_is_a_generator(self):
        started = walks(LADDER, (0, 0), 40)
        lowest = [(2 * k, 0) for k in range(40)]
        expected = [lowest, lowest[:39] + [(79, 0)], lowest[:38] + [(77, 0), (78, 0)]]
        self.assertEqual(expected, list(itertools.islice(started, 3)))

    def test_no_walk_of_this_length(self):
        self.assertEqual([], list(walks(LADDER, (0, 0), 41)))
        self.assertEqual([], list(walks(LADDER, (60, 0), 10 ** 9)))
        self.assertEqual(2 ** 9, len(list(walks(LADDER, (60, 0), 10))))

    def test_long_walks(self):
        self.assertEqual([[(0, 0)] * 5000], list(walks(WEB, (0, 0), 5000)))

    def test_each_list_is_new(self):
        web = Web([2, 2], [(0, 0, 1, 0), (1, 1, 0, 1), (1, 1, 0, 1)])
        expected = slow_walks(web, (0, 0), 5)
        found = []
        for walk in walks(web, (0, 0), 5):
            found.append(list(walk))
            walk.clear()
        self.assertEqual(expected, found)
        self.assertEqual(expected, list(walks(web, (0, 0), 5)))


class ReachTests(unittest.TestCase, Cases):
    def test_reached(self):
        self.assertEqual([(0, 0)], reached(WEB, (0, 0)))
        self.assertEqual([(0, 1), (1, 0)], reached(WEB, (0, 1)))
        self.assertEqual([], reached(WEB, (1, 0)))
        self.assertEqual([(0, 0)], reached(WEB, (1, 1)))

    def test_the_first_step_only_if_it_comes_again(self):
        web = Web([2, 2], [(0, 0, 1, 0), (1, 1, 0, 1)])
        self.assertEqual([(0, 0), (1, 0)], reached(web, (0, 0)))
        self.assertNotIn((0, 0), reached(LADDER, (0, 0)))
        self.assertEqual(78, len(reached(LADDER, (0, 0))))

    def test_against_walks(self):
        for web in small_webs(40, 23, most_ties=4):
            for first in steps_of(web):
                ends = {walk[-1] for length in range(2, 10) for walk in walks(web, first, length)}
                self.assertEqual(sorted(ends), reached(web, first))

    def test_shortest_walk(self):
        self.assertEqual([(1, 1)], shortest_walk(WEB, (1, 1), (1, 1)))
        self.assertEqual([(0, 0)], shortest_walk(WEB, (0, 0), (0, 0)))
        self.assertEqual([(0, 1), (1, 0)], shortest_walk(WEB, (0, 1), (1, 0)))
        self.assertIsNone(shortest_walk(WEB, (1, 0), (0, 0)))

    def test_the_lowest_of_equally_short_walks(self):
        self.assertEqual([(1, 0)] + [(2 * k, 0) for k in range(1, 39)] + [(79, 0)],
                         shortest_walk(LADDER, (1, 0), (79, 0)))

    def test_shortest_walk_against_all_walks(self):
        for web in small_webs(40, 24, most_ties=4):
            for first in steps_of(web):
                for last in steps_of(web):
                    found = None
                    for length in range(1, 10):
                        found = found or next((walk for walk in slow_walks(web, first, length)
                                               if walk[-1] == last), None)
                    self.assertEqual(found, shortest_walk(web, first, last))

    def test_large_web(self):
        web = chain_of_doubles(149)
        expected = [(0, 1), (1, 0)] + [(2 * place, 0) for place in range(1, 150)]
        self.assertEqual(expected, shortest_walk(web, (0, 1), (298, 0)))
        self.assertEqual([(tie, 0) for tie in range(1, 299)], reached(web, (0, 1)))


if __name__ == "__main__":
    unittest.main()
