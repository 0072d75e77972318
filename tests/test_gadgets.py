"""Points 42 and 43: webs as paired webs, and their cycles led in and out."""

import random
import unittest

from helpers import Cases, all_turning_cycles, random_web, small_webs, steps_of

from comesapart.alternating import alternating_cycles, web_of_pairs
from comesapart.cycles import is_turning_cycle, normal_cycle
from comesapart.errors import NotATurningCycle, TooLarge, UnknownPlace, UnknownSide
from comesapart.gadgets import lead_in, lead_out, pair_at, paired_of_web, point_at
from comesapart.paths import reversed_steps
from comesapart.webs import Web

# Places with one, two, three and four sides.
WEB = Web([1, 2, 3, 4], [(0, 0, 1, 1), (1, 0, 2, 2), (2, 0, 3, 3), (3, 1, 2, 1), (3, 0, 3, 2)])


class PairedOfWebTests(unittest.TestCase, Cases):
    def test_example_of_the_document(self):
        self.assertEqual(((4, 8), (1, 6), (1, 7), (3, 6), (3, 7), (5, 6), (5, 7)),
                         paired_of_web(Web([3, 1], [(0, 2, 1, 0)])).free)

    def test_all_kinds_of_places(self):
        paired = paired_of_web(WEB)
        self.assertEqual(11, paired.pairs)
        self.assertEqual(((0, 3), (2, 8), (4, 18), (14, 6), (12, 16)), paired.free[:5])
        self.assertEqual(((5, 10), (5, 11), (7, 10), (7, 11), (9, 10), (9, 11)), paired.free[5:11])
        self.assertEqual(((13, 20), (13, 21), (15, 20), (15, 21), (17, 20), (17, 21), (19, 20), (19, 21)),
                         paired.free[11:])

    def test_edges(self):
        self.assertEqual((0, ()), (paired_of_web(Web.empty()).pairs, paired_of_web(Web.empty()).free))
        paired = paired_of_web(Web([2], [(0, 1, 0, 0), (0, 0, 0, 0), (0, 1, 0, 0)]))
        self.assertEqual((1, ((1, 0), (0, 0), (1, 0))), (paired.pairs, paired.free))

    def test_limits(self):
        self.assertEqual(100, paired_of_web(Web([2] * 100, [])).pairs)
        self.assert_raises(TooLarge, {"limit": 100}, paired_of_web, Web([1] * 101, []))
        self.assert_raises(TooLarge, {"limit": 100}, paired_of_web, Web([4] * 21, [(0, 0, 1, 0)] * 201))
        self.assertEqual(100, paired_of_web(Web([3] * 25, [(0, 0, 1, 0)] * 50)).pairs)
        self.assert_raises(TooLarge, {"limit": 200}, paired_of_web, Web([3] * 25, [(0, 0, 1, 0)] * 51))
        self.assert_raises(TooLarge, {"limit": 200}, paired_of_web, Web([1], [(0, 0, 0, 0)] * 201))


class PointTests(unittest.TestCase, Cases):
    def test_points_and_pairs(self):
        self.assertEqual([[0], [2, 3], [4, 6, 8], [12, 14, 16, 18]],
                         [[point_at(WEB, place, side) for side in range(WEB.sides[place])] for place in range(4)])
        self.assertEqual([0, 1, 5, 10], [pair_at(WEB, place) for place in range(4)])

    def test_errors(self):
        for place in (4, -1, 10 ** 20):
            self.assert_raises(UnknownPlace, {"place": place}, point_at, WEB, place, 0)
            self.assert_raises(UnknownPlace, {"place": place}, point_at, WEB, place, 9)
            self.assert_raises(UnknownPlace, {"place": place}, pair_at, WEB, place)
        for place, side in ((0, 1), (1, 2), (2, 3), (3, 4), (3, -1), (0, 10 ** 20)):
            self.assert_raises(UnknownSide, {"place": place, "side": side}, point_at, WEB, place, side)

    def test_free_ties_end_at_the_points_of_the_ends(self):
        for web in small_webs(50, 42, most_places=6, most_ties=8, most_sides=4):
            ends = [(point_at(web, place, side), point_at(web, other, far)) for place, side, other, far in web.ties]
            self.assertEqual(tuple(ends), paired_of_web(web).free[:len(web.ties)])
            for place, sides in enumerate(web.sides):
                self.assertEqual(1 if sides < 3 else sides + 1, pair_at(web, place) - point_at(web, place, 0) // 2 + 1)


class LeadingTests(unittest.TestCase, Cases):
    def test_two_sides(self):
        web = Web([2, 2], [(0, 0, 1, 0), (0, 1, 1, 1)])
        self.assertEqual([(2, 0), (1, 0), (3, 1), (0, 1)], lead_in(web, [(0, 0), (1, 1)]))
        self.assertEqual([(3, 0), (1, 1), (2, 1), (0, 0)], lead_in(web, ((1, 0), (0, 1))))

    def test_three_and_four_sides(self):
        # The free ties of the ties of the web are 11 to 15, those in the gadget of place 2 begin with 16.
        self.assertEqual([(13, 0), (9, 0), (28, 0), (10, 0), (25, 1), (7, 1),
                          (14, 0), (3, 0), (18, 0), (5, 0), (17, 1), (2, 1)], lead_in(WEB, [(2, 0), (3, 0)]))

    def test_a_loop(self):
        self.assertEqual([(15, 0), (8, 0), (26, 0), (10, 0), (23, 1), (6, 1)], lead_in(WEB, [(4, 0)]))
        self.assertEqual([(1, 0), (0, 0)], lead_in(Web([2], [(0, 1, 0, 0)]), [(0, 0)]))
        self.assertEqual([(1, 1), (0, 1)], lead_in(Web([2], [(0, 1, 0, 0)]), [(0, 1)]))

    def test_lists_that_are_no_turning_cycles(self):
        web = Web([2, 2, 1], [(0, 0, 1, 0), (0, 1, 1, 1), (1, 1, 2, 0), (2, 0, 0, 1), (0, 0, 0, 0), (0, 0, 1, 0)])
        wrong = [[], [(0, 0)], [(9, 0)], [(-1, 0)], [(0, 2)], [(0, -1)], [(10 ** 20, 0), (0, 0)], [(0, 0), (1, 0)],
                 [(0, 0), (5, 1)], [(0, 0), (2, 0), (3, 0)], [(4, 0)], [(0, 0), (0, 1)],
                 [(0, 0), (1, 1), (0, 0), (1, 1)], [(1, 0), (1, 0)], [(0, 0), (1, 1), (4, 0)]]
        for steps in wrong:
            self.assert_raises(NotATurningCycle, {}, lead_in, web, steps)
            self.assert_raises(NotATurningCycle, {}, lead_in, web, tuple(steps))
        self.assert_raises(NotATurningCycle, {}, lead_in, Web.empty(), [(0, 0)])

    def test_every_list_of_a_small_web(self):
        web = Web([2, 3], [(0, 0, 1, 0), (1, 1, 0, 1), (1, 2, 0, 0)])
        lists = [[]] + [[step] for step in steps_of(web)] + [[one, two] for one in steps_of(web)
                                                             for two in steps_of(web)]
        for steps in lists:
            if is_turning_cycle(web, steps):
                self.assertEqual(steps, lead_out(web, lead_in(web, steps)))
            else:
                self.assert_raises(NotATurningCycle, {}, lead_in, web, steps)

    def test_lead_out(self):
        self.assertEqual([(2, 1), (0, 0)], lead_out(WEB, [(13, 1), (10, 0), (16, 0), (11, 0), (0, 1)]))
        self.assertEqual([(4, 0), (4, 0)], lead_out(WEB, ((15, 0), (15, 0))))
        self.assertEqual([], lead_out(WEB, []))

    def test_turning_cycles_are_led_in_and_out(self):
        for web in small_webs(150, 43, most_places=4, most_ties=6, most_sides=4):
            inside = alternating_cycles(paired_of_web(web))
            outside = [normal_cycle(lead_out(web, cycle)) for cycle in inside]
            cycles = all_turning_cycles(web)
            expected = []
            for cycle in cycles:
                places = [web.tail(step)[0] for step in cycle]
                expected += [cycle] * 2 ** len([place for place in places if web.sides[place] > 2])
                for steps in (cycle, cycle[1:] + cycle[:1], reversed_steps(cycle)):
                    led = lead_in(web, steps)
                    self.assertTrue(is_turning_cycle(web_of_pairs(paired_of_web(web)), led))
                    self.assertIn(normal_cycle(led), inside)
                    self.assertEqual(steps, lead_out(web, led))
            self.assertEqual(expected, sorted(outside))

    def test_a_large_web(self):
        rng = random.Random(44)
        ring = [(place, rng.randrange(2), (place + 1) % 20, 2) for place in range(20)]
        web = Web([4] * 20, ring)
        steps = [(tie, 0) for tie in range(20)]
        led = lead_in(web, steps)
        self.assertEqual(120, len(led))
        self.assertTrue(is_turning_cycle(web_of_pairs(paired_of_web(web)), led))
        self.assertEqual(steps, lead_out(web, led))
        self.assertEqual(97, pair_at(random_web(rng, 98, 200, 2), 97))

    def test_new_lists(self):
        self.assert_new_list(lead_in, WEB, [(2, 0), (3, 0)])
        self.assert_new_list(lead_out, WEB, [(13, 1), (10, 0)])


if __name__ == "__main__":
    unittest.main()
