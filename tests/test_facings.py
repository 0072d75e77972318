"""Points 24 to 26: facings, tie groups, and turning cycles in rings."""

import itertools
import random
import unittest

from helpers import Cases, all_turning_cycles, small_webs, steps_of

from comesapart.cycles import is_turning_cycle
from comesapart.facings import (NoFacing, NotARing, count_facings, cycle_in_ring, facing, is_facing, tie_groups)
from comesapart.followers import followers
from comesapart.rings import find_ring, is_ring
from comesapart.webs import Web

# Ties 0 and 3 meet at place 1, tie 1 is a loop on two sides of place 2, and tie 2 is alone.
WEB = Web([2, 2, 2, 1], [(0, 0, 1, 0), (2, 0, 2, 1), (3, 0, 3, 0), (3, 0, 1, 1)])
TRIANGLE = Web([3, 1, 1, 1], [(0, 0, 1, 0), (0, 1, 2, 0), (0, 2, 3, 0)])


def facing_by_words(web, directions):
    return all((step[1] == directions[step[0]]) == (after[1] == directions[after[0]])
               for step in steps_of(web) for after in followers(web, step))


def all_facings(web):
    return [list(directions) for directions in itertools.product((0, 1), repeat=len(web.ties))
            if facing_by_words(web, directions)]


class FacingTests(unittest.TestCase, Cases):
    def test_facing(self):
        self.assertEqual([0, 0, 0, 1], facing(WEB))
        self.assertEqual([[0, 3], [1], [2]], tie_groups(WEB))
        self.assertEqual(8, count_facings(WEB))

    def test_web_without_ties(self):
        for web in (Web.empty(), Web([4, 1], [])):
            self.assertEqual(([], [], 1), (facing(web), tie_groups(web), count_facings(web)))
            self.assertIs(True, is_facing(web, []))
            self.assertIs(False, is_facing(web, [0]))

    def test_webs_without_facing(self):
        # Three used sides; a loop on one side of a joint.
        for web in (TRIANGLE, Web([2, 1], [(0, 0, 0, 0), (0, 1, 1, 0)])):
            self.assertIsNone(facing(web))
            self.assertEqual(0, count_facings(web))
            for directions in itertools.product((0, 1), repeat=len(web.ties)):
                self.assertIs(False, is_facing(web, list(directions)))

    def test_loops(self):
        self.assertEqual([0], facing(Web([1], [(0, 0, 0, 0)])))
        self.assertEqual([0, 1], facing(Web([2], [(0, 0, 0, 1), (0, 1, 0, 0)])))
        self.assertEqual(2, count_facings(Web([2], [(0, 0, 0, 1), (0, 1, 0, 0)])))

    def test_is_facing(self):
        self.assertIs(True, is_facing(WEB, [0, 0, 0, 1]))
        self.assertIs(True, is_facing(WEB, (1, 0, 1, 0)))
        self.assertIs(False, is_facing(WEB, [0, 0, 0, 0]))

    def test_lists_that_are_no_facings(self):
        for wrong in ([], [0, 0, 0], [0, 0, 0, 1, 0], [0, 0, 2, 1], [0, -1, 0, 1], [0, 0, 10 ** 20, 1], [0, 0, -1, 0]):
            self.assertIs(False, is_facing(WEB, wrong))

    def test_against_all_directions(self):
        kinds = set()
        for web in small_webs(150, 25):
            found = all_facings(web)
            kinds.add(bool(found))
            self.assertEqual(len(found), count_facings(web))
            lowest = [group[0] for group in tie_groups(web)]
            chosen = [directions for directions in found if all(directions[tie] == 0 for tie in lowest)]
            self.assertEqual(chosen, [] if facing(web) is None else [facing(web)])
            for directions in itertools.product((0, 1, 2), repeat=min(len(web.ties), 4)):
                self.assertEqual(list(directions) in found, is_facing(web, list(directions)))
        self.assertEqual({True, False}, kinds)

    def test_tie_groups_against_chains_of_followers(self):
        for web in small_webs(60, 26):
            groups = {tie: {tie} for tie in range(len(web.ties))}
            for step in steps_of(web):
                for after in followers(web, step):
                    joined = groups[step[0]] | groups[after[0]]
                    groups.update({tie: joined for tie in joined})
            self.assertEqual(sorted({tuple(sorted(group)) for group in groups.values()}),
                             [tuple(group) for group in tie_groups(web)])

    def test_lists_are_new(self):
        self.assert_new_list(facing, WEB)
        self.assert_new_list(tie_groups, WEB)

    def test_large_webs(self):
        alone = Web([1] * 200, [(k % 200, 0, k % 200, 0) for k in range(300)])
        self.assertEqual(2 ** 300, count_facings(alone))
        chain = Web([2] * 200, [(k, 1, k + 1, 0) if k % 2 else (k + 1, 0, k, 1) for k in range(199)])
        self.assertEqual([k % 2 for k in range(199)], facing(chain))
        self.assertEqual(2, count_facings(chain))


class RingCycleTests(unittest.TestCase, Cases):
    def test_ring_that_is_a_cycle(self):
        web = Web([2, 2], [(0, 0, 1, 0), (1, 1, 0, 1)])
        cycle = cycle_in_ring(web, [(0, 0), (1, 0)])
        self.assertTrue(is_turning_cycle(web, cycle))
        self.assertEqual([(0, 0), (1, 0)], sorted(cycle))

    def test_ring_that_meets_a_place_twice(self):
        web = Web([2, 2, 2], [(0, 1, 1, 0), (1, 1, 0, 0), (0, 1, 2, 0), (2, 1, 0, 0)])
        ring = [(0, 0), (1, 0), (2, 0), (3, 0)]
        self.assertTrue(is_ring(web, ring))
        for shift in range(4):
            cycle = cycle_in_ring(web, tuple(ring[shift:] + ring[:shift]))
            self.assertTrue(is_turning_cycle(web, cycle))
            self.assertIs(list, cycle.__class__)

    def test_errors(self):
        web = Web([2, 2], [(0, 0, 1, 0), (1, 1, 0, 1)])
        for wrong in ([], [(0, 0)], [(0, 0), (1, 1)], [(9, 0)], [(0, 0), (1, 0), (0, 0), (1, 0)], [(0, 2), (1, 0)]):
            self.assert_raises(NotARing, {}, cycle_in_ring, web, wrong)
            self.assert_raises(NoFacing, {}, cycle_in_ring, TRIANGLE, wrong)
        loop = Web([3, 1], [(0, 0, 0, 1), (0, 2, 1, 0)])
        self.assertTrue(is_ring(loop, [(0, 0)]))
        self.assert_raises(NoFacing, {}, cycle_in_ring, loop, [(0, 0)])
        self.assert_raises(NotARing, {}, cycle_in_ring, Web.empty(), [])

    def test_random_rings(self):
        rng = random.Random(26)
        tried = 0
        for web in small_webs(1500, 27, most_sides=2):
            ring = self.random_ring(rng, web)
            if ring is None or facing(web) is None:
                continue
            tried += 1
            before = list(ring)
            cycle = cycle_in_ring(web, ring)
            self.assertEqual(before, ring)
            self.assertTrue(is_turning_cycle(web, cycle))
            self.assertEqual([], [step for step in cycle if step not in ring])
            cycle.append("changed")
            self.assertEqual(before, ring)
            self.assertEqual(cycle[:-1], cycle_in_ring(web, ring))
        self.assertGreater(tried, 50)

    def random_ring(self, rng, web):
        """Walk at random until a step comes again; so rings arise that meet places several times."""
        ring = find_ring(web)
        if ring is None:
            return None
        longest = ring
        for _ in range(20):
            walk = [rng.choice(ring)]
            while True:
                after = [step for step in followers(web, walk[-1])]
                fresh = [step for step in after if step not in walk]
                if walk[0] in after and len(walk) > len(longest):
                    longest = list(walk)
                if not fresh:
                    break
                walk.append(rng.choice(fresh))
        return longest

    def test_rings_and_turning_cycles_where_there_is_a_facing(self):
        for web in small_webs(200, 28, most_sides=2):
            if facing(web) is not None:
                self.assertEqual(find_ring(web) is not None, all_turning_cycles(web) != [])


if __name__ == "__main__":
    unittest.main()
