"""Point 63: settings of a wiring."""

import itertools
import unittest

from helpers import Cases, all_turning_cycles, small_wirings, sound_wiring, steps_of

from comesapart.cycles import cycle_places, is_turning_cycle
from comesapart.errors import NotATurningCycle, TooLarge
from comesapart.groups import grouped
from comesapart.settings import BadSetting, groups_under, kept_ties, ring_under, setting_of, settings
from comesapart.wirings import Wiring
from comesapart.wiringwebs import is_sound, web_of_wiring

# Nodes: together 0 (ties 0, 1), both 1 (ties 2, 3), together 2 (ties 4, 5); link 2 stands alone.
WIRING = Wiring([(0, 2), (3, 1), (4, 5)], [("together", 0, 1), ("both", 2, 3), ("together", 6, 7)])
FLAT = Wiring([(0, 1)], [("both", 1, 0)])
UNTIED = Wiring([(1, 0), (2, 3)], [])


def togethers(count):
    return Wiring([(2 * link, 2 * link + 1) for link in range(count)],
                  [("together", 2 * link, 2 * link + 1) for link in range(count)])


class SettingsTests(unittest.TestCase, Cases):
    def test_all_in_order(self):
        self.assertEqual([[0, 0], [0, 1], [1, 0], [1, 1]], list(settings(WIRING)))
        self.assertEqual([[]], list(settings(FLAT)))
        self.assertEqual([[]], list(settings(UNTIED)))
        found = list(settings(togethers(10)))
        self.assertEqual([list(setting) for setting in itertools.product((0, 1), repeat=10)], found)

    def test_too_many(self):
        for count in (11, 40):
            iteration = settings(togethers(count))
            self.assert_raises(TooLarge, {"limit": 10}, list, iteration)
        self.assertEqual(1024, len(list(settings(togethers(10)))))

    def test_each_list_is_new(self):
        found = []
        for setting in settings(WIRING):
            found.append(list(setting))
            setting.append("changed")
        self.assertEqual([[0, 0], [0, 1], [1, 0], [1, 1]], found)


class KeptTests(unittest.TestCase, Cases):
    def test_kept_ties(self):
        self.assertEqual([0, 2, 3, 4], kept_ties(WIRING, [0, 0]))
        self.assertEqual([1, 2, 3, 5], kept_ties(WIRING, (1, 1)))
        self.assertEqual([0, 2, 3, 5], kept_ties(WIRING, [0, 1]))
        self.assertEqual([0, 1], kept_ties(FLAT, []))
        self.assertEqual([], kept_ties(UNTIED, ()))

    def test_groups_under(self):
        self.assertEqual([[0, 1, 3, 4, 5], [2]], groups_under(WIRING, [0, 0]))
        self.assertEqual([[0, 1]], groups_under(FLAT, []))
        self.assertEqual([[0], [1]], groups_under(UNTIED, ()))

    def test_ring_under(self):
        self.assertIsNone(ring_under(WIRING, [0, 0]))
        self.assertIsNone(ring_under(UNTIED, []))
        self.assertIn(ring_under(FLAT, ()), ([(0, 0), (1, 1)], [(0, 1), (1, 0)], [(1, 0), (0, 1)], [(1, 1), (0, 0)]))

    def test_wrong_settings(self):
        for setting in ([], [0], [0, 0, 0], [0, 2], [-1, 0], [10 ** 20, 0], [2, 2], [0, -1]):
            for function in (kept_ties, groups_under, ring_under):
                self.assert_raises(BadSetting, {}, function, WIRING, setting)
                self.assert_raises(BadSetting, {}, function, WIRING, tuple(setting))
        for function in (kept_ties, groups_under, ring_under):
            self.assert_raises(BadSetting, {}, function, FLAT, [0])
            self.assert_raises(BadSetting, {}, function, UNTIED, [1])

    def test_new_lists(self):
        self.assert_new_list(kept_ties, WIRING, [0, 1])
        self.assert_new_list(groups_under, WIRING, [0, 1])
        self.assert_new_list(ring_under, FLAT, [])
        cycle = all_turning_cycles(web_of_wiring(FLAT))[0]
        self.assert_new_list(setting_of, FLAT, cycle)

    def test_against_the_words_of_the_document(self):
        rings = 0
        for wiring in small_wirings(150, 64, most_nodes=7):
            web = web_of_wiring(wiring)
            places = list(range(len(web.sides)))
            ringless = True
            for setting in settings(wiring):
                expected, left = [], list(setting)
                for node, (kind, _, _) in enumerate(wiring.nodes):
                    expected += [2 * node, 2 * node + 1] if kind == "both" else [2 * node + left.pop(0)]
                self.assertEqual(expected, kept_ties(wiring, setting))
                groups = grouped(places, [(web.ties[tie][0], web.ties[tie][2]) for tie in expected])
                self.assertEqual(groups, groups_under(wiring, setting))
                ring = ring_under(wiring, setting)
                # A graph without a cycle has as many groups as it has points more than ties.
                self.assertIs(len(groups) == len(places) - len(expected), ring is None)
                if ring is not None:
                    rings, ringless = rings + 1, False
                    self.assertEqual(len(ring), len(cycle_places(web, ring)))
                    self.assertTrue({tie for tie, _ in ring} <= set(expected))
            self.assertIs(ringless, is_sound(wiring))
        self.assertGreater(rings, 100)

    def test_wirings_of_40_links(self):
        for seed in range(3):
            wiring = sound_wiring(seed, 40, 39)
            count = len(wiring.nodes) - wiring.boths
            for setting in ([0] * count, [1] * count):
                self.assertIsNone(ring_under(wiring, setting))
                self.assertEqual([list(range(len(web_of_wiring(wiring).sides)))], groups_under(wiring, setting))


class SettingOfTests(unittest.TestCase, Cases):
    def test_ordinary_cycles(self):
        wiring = Wiring([(0, 1), (2, 3)], [("together", 0, 2), ("both", 4, 1), ("together", 3, 5)])
        self.assertEqual([0, 0], setting_of(wiring, [(0, 0), (2, 0), (3, 1)]))
        other = Wiring([(0, 1), (2, 3)], [("together", 2, 0), ("both", 4, 1), ("together", 3, 5)])
        self.assertEqual([1, 0], setting_of(other, ((1, 0), (2, 0), (3, 1))))
        self.assertEqual([], setting_of(FLAT, [(0, 0), (1, 1)]))

    def test_all_turning_cycles(self):
        for wiring in small_wirings(150, 65):
            web = web_of_wiring(wiring)
            for cycle in all_turning_cycles(web):
                setting = setting_of(wiring, cycle)
                self.assertTrue({tie for tie, _ in cycle} <= set(kept_ties(wiring, setting)))
                walked = [tie for tie, _ in cycle]
                expected = [1 if 2 * node + 1 in walked else 0 for node, (kind, _, _) in enumerate(wiring.nodes)
                            if kind == "together"]
                self.assertEqual(expected, setting)

    def test_lists_that_are_no_turning_cycles(self):
        for wiring in (FLAT, WIRING):
            for steps in ([], [(0, 0)], [(9, 0)], [(-1, 0), (0, 0)], [(0, 2)], [(0, 0), (1, 0)], [(10 ** 20, 0)],
                          [(0, 0), (1, 1), (0, 0), (1, 1)], [(0, 0), (0, 1)], [(0, 0), (1, 1), (1, 0)]):
                self.assert_raises(NotATurningCycle, {}, setting_of, wiring, steps)
                self.assert_raises(NotATurningCycle, {}, setting_of, wiring, tuple(steps))
        self.assert_raises(NotATurningCycle, {}, setting_of, UNTIED, [(0, 0)])
        # A cycle that passes the together from its left part to its right part has a cusp there.
        cusp = Wiring([(0, 1)], [("together", 0, 1)])
        self.assert_raises(NotATurningCycle, {}, setting_of, cusp, [(0, 0), (1, 1)])

    def test_every_short_list(self):
        wiring = Wiring([(0, 1), (2, 3)], [("both", 0, 2), ("both", 1, 3)])
        web = web_of_wiring(wiring)
        steps = steps_of(web)
        for count in (1, 2, 4):
            for walk in itertools.product(steps, repeat=count):
                if is_turning_cycle(web, list(walk)):
                    self.assertEqual([], setting_of(wiring, list(walk)))
                else:
                    self.assert_raises(NotATurningCycle, {}, setting_of, wiring, list(walk))


if __name__ == "__main__":
    unittest.main()
