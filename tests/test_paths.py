"""Points 5 and 6: steps, walks and paths."""

import unittest

from helpers import Cases, small_webs, steps_of

from comesapart.errors import BadStep, UnknownPlace
from comesapart.paths import is_path, is_turning_path, reversed_steps, turns, walk_places
from comesapart.webs import Web

# A chain 0 - 1 - 2 that turns at 1, a tie 1 - 3 on the side of the first one, and a loop on two sides of 2.
WEB = Web([1, 2, 3, 1], [(0, 0, 1, 0), (1, 1, 2, 0), (3, 0, 1, 0), (2, 1, 2, 2)])


class PathTests(unittest.TestCase, Cases):
    def test_walk_places(self):
        self.assertEqual([0, 1, 2, 2, 2], walk_places(WEB, 0, [(0, 0), (1, 0), (3, 1), (3, 1)]))
        self.assertEqual([2, 1, 3], walk_places(WEB, 2, [(1, 1), (2, 1)]))

    def test_walk_without_steps(self):
        self.assertEqual([3], walk_places(WEB, 3, []))
        self.assertTrue(is_path(WEB, 3, []))
        self.assertTrue(is_turning_path(WEB, 3, []))

    def test_paths(self):
        self.assertTrue(is_path(WEB, 0, [(0, 0), (1, 0)]))
        self.assertTrue(is_path(WEB, 0, [(0, 0), (2, 1)]))
        self.assertFalse(is_path(WEB, 0, [(0, 0), (0, 1)]))
        self.assertFalse(is_path(WEB, 2, [(3, 0)]))

    def test_turning_paths(self):
        self.assertTrue(is_turning_path(WEB, 0, [(0, 0), (1, 0)]))
        self.assertFalse(is_turning_path(WEB, 0, [(0, 0), (2, 1)]))
        self.assertFalse(is_turning_path(WEB, 0, [(0, 0), (1, 0), (3, 0)]))
        self.assertTrue(is_turning_path(WEB, 0, [(0, 0)]))

    def test_a_late_step_that_does_not_turn(self):
        chain = Web([1, 2, 2, 2, 1], [(0, 0, 1, 0), (1, 1, 2, 0), (2, 1, 3, 0), (3, 0, 4, 0)])
        steps = [(0, 0), (1, 0), (2, 0), (3, 0)]
        self.assertTrue(is_turning_path(chain, 0, steps[:3]))
        self.assertFalse(is_turning_path(chain, 0, steps))
        self.assertFalse(is_turning_path(chain, 4, reversed_steps(steps)))

    def test_unknown_start(self):
        for function in (walk_places, is_path, is_turning_path):
            for start in (4, -1, 10 ** 20):
                self.assert_raises(UnknownPlace, {"place": start}, function, WEB, start, [])
                self.assert_raises(UnknownPlace, {"place": start}, function, WEB, start, [(9, 9)])
            self.assert_raises(UnknownPlace, {"place": 0}, function, Web.empty(), 0, [])

    def test_bad_steps(self):
        for function in (walk_places, is_path, is_turning_path):
            for wrong in ((4, 0), (-1, 0), (10 ** 20, 1), (1, 2), (1, -1), (2, 0), (0, 0), (1, 1)):
                self.assert_raises(BadStep, {"step": 1}, function, WEB, 0, [(0, 0), wrong, (9, 9)])
            self.assert_raises(BadStep, {"step": 0}, function, WEB, 1, [(0, 0)])

    def test_a_bad_step_counts_before_the_answer(self):
        for function in (is_path, is_turning_path):
            self.assert_raises(BadStep, {"step": 3}, function, WEB, 0, [(0, 0), (0, 1), (0, 0), (9, 0)])

    def test_turns(self):
        self.assertIs(True, turns(WEB, (0, 0), (1, 0)))
        self.assertIs(False, turns(WEB, (0, 0), (2, 1)))
        self.assertIs(False, turns(WEB, (0, 0), (0, 1)))
        self.assertIs(True, turns(WEB, (3, 0), (3, 0)))
        self.assertIs(False, turns(WEB, (3, 0), (3, 1)))

    def test_reversed_steps(self):
        self.assertEqual([], reversed_steps([]))
        self.assertEqual([(2, 0), (0, 1), (5, 1)], reversed_steps([(5, 0), (0, 0), (2, 1)]))
        self.assertEqual([(2, 0), (5, 1)], reversed_steps(((5, 0), (2, 1))))

    def test_a_walk_backward(self):
        steps = [(0, 0), (1, 0), (3, 1)]
        forward = walk_places(WEB, 0, steps)
        self.assertEqual(forward[::-1], walk_places(WEB, forward[-1], reversed_steps(steps)))

    def test_tuples_may_be_passed(self):
        steps = ((0, 0), (1, 0))
        self.assertEqual([0, 1, 2], walk_places(WEB, 0, steps))
        self.assertTrue(is_path(WEB, 0, steps))
        self.assertTrue(is_turning_path(WEB, 0, steps))

    def test_lists_are_new_and_arguments_stay(self):
        self.assert_new_list(walk_places, WEB, 0, [(0, 0), (1, 0)])
        self.assert_new_list(reversed_steps, [(0, 0), (1, 0)])

    def test_against_the_words_of_the_document(self):
        for web in small_webs(60, 3):
            for first in steps_of(web):
                for second in steps_of(web):
                    start, mid = web.tail(first)[0], web.head(first)[0]
                    steps = [first, second]
                    if web.tail(second)[0] != mid:
                        self.assert_raises(BadStep, {"step": 1}, walk_places, web, start, steps)
                        continue
                    met = [start, mid, web.head(second)[0]]
                    self.assertEqual(met, walk_places(web, start, steps))
                    self.assertEqual(len(set(met)) == 3, is_path(web, start, steps))
                    turning = web.head(first)[1] != web.tail(second)[1]
                    self.assertEqual(len(set(met)) == 3 and turning, is_turning_path(web, start, steps))


if __name__ == "__main__":
    unittest.main()
