"""Point 7: cycles, cusps and the normal form."""

import itertools
import unittest

from helpers import Cases, small_webs, steps_of

from comesapart.cycles import cusps, cycle_places, is_turning_cycle, normal_cycle
from comesapart.errors import BadStep, Repeated
from comesapart.paths import reversed_steps
from comesapart.webs import Web

# A triangle 0, 1, 2 with a cusp at 2, two parallel ties 0 - 1, and loops on two sides and on one side of 3.
WEB = Web([2, 2, 2, 2, 1], [(0, 0, 1, 0), (1, 1, 2, 0), (2, 0, 0, 1), (0, 1, 1, 1), (3, 0, 3, 1), (3, 0, 3, 0),
                            (2, 0, 3, 0), (0, 0, 3, 1)])


class CycleTests(unittest.TestCase, Cases):
    def test_example_of_the_document(self):
        self.assertEqual([1], cusps(Web([2, 2], [(0, 0, 1, 0), (1, 0, 0, 1)]), [(0, 0), (1, 0)]))

    def test_places_and_cusps(self):
        self.assertEqual([0, 1, 2], cycle_places(WEB, [(0, 0), (1, 0), (2, 0)]))
        self.assertEqual([2], cusps(WEB, [(0, 0), (1, 0), (2, 0)]))
        self.assertEqual([2, 1, 0], cycle_places(WEB, [(1, 1), (0, 1), (2, 1)]))
        self.assertEqual([], cusps(WEB, [(0, 0), (3, 1)]))

    def test_order_of_several_cusps(self):
        web = Web([1, 1, 1], [(0, 0, 1, 0), (1, 0, 2, 0), (2, 0, 0, 0)])
        self.assertEqual([2, 0, 1], cusps(web, [(2, 0), (0, 0), (1, 0)]))

    def test_cycle_of_one_step(self):
        self.assertEqual([3], cycle_places(WEB, [(4, 0)]))
        self.assertEqual([], cusps(WEB, [(4, 1)]))
        self.assertEqual([3], cusps(WEB, [(5, 0)]))
        self.assertTrue(is_turning_cycle(WEB, [(4, 0)]))
        self.assertFalse(is_turning_cycle(WEB, [(5, 1)]))

    def check_error(self, error, index, steps):
        for function in (cycle_places, cusps):
            self.assert_raises(error, {"step": index}, function, WEB, steps)
        self.assertIs(False, is_turning_cycle(WEB, steps))

    def test_no_steps(self):
        self.check_error(BadStep, 0, [])

    def test_bad_steps(self):
        for wrong in ((8, 0), (-1, 0), (10 ** 20, 0), (1, 2), (1, -1)):
            self.check_error(BadStep, 1, [(0, 0), wrong, (9, 9)])
            self.check_error(BadStep, 0, [wrong, (9, 9)])
        self.check_error(BadStep, 1, [(0, 0), (2, 0), (9, 9)])

    def test_steps_that_do_not_close(self):
        self.check_error(BadStep, 1, [(0, 0)])
        self.check_error(BadStep, 2, [(0, 0), (1, 0)])

    def test_repeated_place(self):
        self.check_error(Repeated, 2, [(0, 0), (3, 1), (2, 1), (1, 1), (3, 1)])
        self.check_error(Repeated, 1, [(4, 0), (5, 0)])

    def test_repeated_tie(self):
        self.check_error(Repeated, 1, [(0, 0), (0, 1)])
        self.check_error(Repeated, 1, [(4, 0), (4, 1)])
        self.check_error(Repeated, 1, [(4, 0), (4, 0)])

    def test_a_wrong_step_counts_before_a_repeated_one(self):
        self.check_error(BadStep, 3, [(0, 0), (0, 1), (0, 0), (9, 0)])
        self.check_error(BadStep, 3, [(0, 0), (0, 1), (0, 0)])

    def test_is_turning_cycle(self):
        self.assertIs(True, is_turning_cycle(WEB, [(0, 0), (3, 1)]))
        self.assertIs(False, is_turning_cycle(WEB, [(0, 0), (1, 0), (2, 0)]))
        self.assertIs(True, is_turning_cycle(WEB, [(7, 0), (4, 1), (6, 1), (1, 1), (3, 1)][1:2]))

    def test_normal_form(self):
        self.assertEqual([(4, 0)], normal_cycle([(4, 1)]))
        self.assertEqual([(4, 0)], normal_cycle([(4, 0)]))
        self.assertEqual([(0, 0), (1, 0), (2, 0)], normal_cycle([(1, 0), (2, 0), (0, 0)]))
        self.assertEqual([(0, 0), (1, 0), (2, 0)], normal_cycle([(1, 1), (0, 1), (2, 1)]))
        self.assertEqual([(0, 0), (3, 1)], normal_cycle([(3, 0), (0, 1)]))

    def test_normal_form_of_all_rotations(self):
        steps = [(2, 0), (9, 1), (4, 1), (7, 0)]
        for shift in range(4):
            turned = steps[shift:] + steps[:shift]
            self.assertEqual(steps, normal_cycle(turned))
            self.assertEqual(steps, normal_cycle(reversed_steps(turned)))

    def test_tuples_may_be_passed(self):
        steps = ((0, 1), (3, 0))
        self.assertEqual([1, 0], cycle_places(WEB, steps))
        self.assertEqual([], cusps(WEB, steps))
        self.assertTrue(is_turning_cycle(WEB, steps))
        self.assertEqual([(0, 0), (3, 1)], normal_cycle(steps))
        self.assertEqual([(0, 0), (3, 1)], normal_cycle(((0, 0), (3, 1))))
        self.assert_raises(BadStep, {"step": 0}, cycle_places, WEB, ())

    def test_lists_are_new_and_arguments_stay(self):
        steps = [(1, 0), (2, 0), (0, 0)]
        self.assert_new_list(cycle_places, WEB, steps)
        self.assert_new_list(cusps, WEB, steps)
        self.assert_new_list(normal_cycle, steps)
        self.assert_new_list(normal_cycle, [(0, 0), (1, 0), (2, 0)])

    def test_against_the_words_of_the_document(self):
        for web in small_webs(60, 4, most_ties=4):
            for size in (1, 2, 3):
                for steps in itertools.product(steps_of(web), repeat=size):
                    self.check_against_words(web, list(steps))

    def check_against_words(self, web, steps):
        leads_on = [web.head(steps[index - 1])[0] == web.tail(step)[0] for index, step in enumerate(steps)]
        places = [web.tail(step)[0] for step in steps]
        ties = [tie for tie, _ in steps]
        cycle = all(leads_on) and len(set(places)) == len(steps) and len(set(ties)) == len(steps)
        turning = [web.head(steps[index - 1])[1] != web.tail(step)[1] for index, step in enumerate(steps)]
        self.assertEqual(cycle and all(turning), is_turning_cycle(web, steps))
        if cycle:
            self.assertEqual(places, cycle_places(web, steps))
            self.assertEqual([place for place, turn in zip(places, turning) if not turn], cusps(web, steps))


if __name__ == "__main__":
    unittest.main()
