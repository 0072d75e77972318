"""Points 72 to 76: opposite terms, states, cuts that are worked off, and the joined wiring."""

import random
import unittest

from helpers import Cases, cut_wiring, small_cut_wirings, sound_wiring

from comesapart.errors import UnknownTerm
from comesapart.joining import (BadCut, Locked, NoSuchCut, Nothing, are_opposite, first_state, is_locked, joined,
                                last_state, next_state, open_cuts, web_of_state)
from comesapart.openings import knot
from comesapart.trails import closed_trails, trail_links
from comesapart.wirings import Wiring
from comesapart.wiringwebs import is_sound, web_of_wiring

# Roots: both 12 over 0, 1 and together 13 over 2, 3; together 15 over both 14 and 6; the leaves 7 to 11.
WIRING = Wiring([(0, 7), (8, 1), (2, 9), (3, 10), (4, 5), (11, 6)],
                [("both", 0, 1), ("together", 3, 2), ("both", 4, 5), ("together", 14, 6)])
STATE = (((7, 9), (12, 13)), ((0, 7), (1, 8), (2, 9), (3, 10), (4, 5), (6, 11)))


def opposite_by_words(wiring, one, other):
    if one < wiring.leaves or other < wiring.leaves:
        return one < wiring.leaves and other < wiring.leaves
    kind, left, right = wiring.nodes[one - wiring.leaves]
    far_kind, far_left, far_right = wiring.nodes[other - wiring.leaves]
    return (kind != far_kind and opposite_by_words(wiring, left, far_left)
            and opposite_by_words(wiring, right, far_right))


def all_last_states(wiring, state, steps=0):
    """Return all (last state, number of steps) to which working off cuts in any order leads."""
    if not open_cuts(state):
        return {(state, steps)}
    found = set()
    for cut in open_cuts(state):
        found |= all_last_states(wiring, next_state(wiring, state, cut), steps + 1)
    return found


def states_on_the_way(wiring, cuts, rng):
    """Return the states from the first one to a last one, along random cuts."""
    states = [first_state(wiring, cuts)]
    while open_cuts(states[-1]):
        states.append(next_state(wiring, states[-1], rng.choice(open_cuts(states[-1]))))
    return states


class OppositeTests(unittest.TestCase, Cases):
    def test_leaves(self):
        self.assertTrue(are_opposite(WIRING, 0, 1))
        self.assertTrue(are_opposite(WIRING, 11, 2))
        self.assertTrue(are_opposite(WIRING, 5, 5))

    def test_nodes(self):
        self.assertTrue(are_opposite(WIRING, 12, 13))
        self.assertTrue(are_opposite(WIRING, 13, 12))
        self.assertTrue(are_opposite(WIRING, 14, 13))
        self.assertFalse(are_opposite(WIRING, 12, 14))
        self.assertFalse(are_opposite(WIRING, 12, 12))
        self.assertFalse(are_opposite(WIRING, 15, 12))
        self.assertFalse(are_opposite(WIRING, 15, 13))
        self.assertFalse(are_opposite(WIRING, 0, 12))
        self.assertFalse(are_opposite(WIRING, 12, 0))

    def test_parts_that_are_exchanged_are_not_opposite(self):
        wiring = Wiring([(0, 1), (2, 3), (4, 5)], [("both", 0, 1), ("both", 6, 2), ("together", 3, 4),
                                                   ("together", 8, 5)])
        self.assertTrue(are_opposite(wiring, 7, 9))
        wiring = Wiring([(0, 1), (2, 3), (4, 5)], [("both", 0, 1), ("both", 6, 2), ("together", 3, 4),
                                                   ("together", 5, 8)])
        self.assertFalse(are_opposite(wiring, 7, 9))
        wiring = Wiring([(0, 1), (2, 3), (4, 5)], [("both", 0, 1), ("both", 2, 6), ("both", 3, 4),
                                                   ("together", 5, 8)])
        self.assertFalse(are_opposite(wiring, 7, 9))

    def test_unknown_terms(self):
        for term in (16, -1, 10 ** 20):
            self.assert_raises(UnknownTerm, {"term": term}, are_opposite, WIRING, term, 99)
            self.assert_raises(UnknownTerm, {"term": term}, are_opposite, WIRING, 12, term)

    def test_against_the_words_of_the_document(self):
        for wiring, _ in small_cut_wirings(60, 72):
            for one in range(wiring.terms):
                for other in range(wiring.terms):
                    self.assertIs(opposite_by_words(wiring, one, other), are_opposite(wiring, one, other))


class CutsTests(unittest.TestCase, Cases):
    def test_first_state(self):
        self.assertEqual(STATE, first_state(WIRING, [(13, 12), (7, 9)]))
        self.assertEqual(STATE, first_state(WIRING, ((9, 7), (12, 13))))
        self.assertEqual(((), STATE[1]), first_state(WIRING, []))
        for value in (STATE, STATE[0], STATE[1], STATE[0][0], STATE[1][0]):
            self.assertIs(tuple, value.__class__)

    def check_bad(self, index, cuts):
        for function in (first_state, joined, trail_links, closed_trails):
            self.assert_raises(BadCut, {"cut": index}, function, WIRING, cuts)
        self.assert_raises(BadCut, {"cut": index}, last_state, WIRING, cuts, [1, 2])

    def test_bad_cuts(self):
        for cut in ((8, 8), (15, 15), (0, 8), (8, 0), (14, 13), (13, 14), (16, 8), (8, 16), (-1, 8), (8, -1),
                    (8, 10 ** 20), (8, 12), (12, 8), (12, 15), (13, 15), (7, 8), (8, 7), (9, 10), (14, 8)):
            self.check_bad(1, [(7, 9), cut])
            self.check_bad(1, ((7, 9), cut, (0, 0)))
        self.check_bad(0, [(4, 4), (13, 12)])
        self.check_bad(2, [(12, 13), (7, 9), (12, 13)])
        self.check_bad(2, [(12, 13), (7, 9), (9, 7)])

    def test_locked_and_open_cuts(self):
        wiring = Wiring([(0, 1), (2, 3), (4, 5)], [("both", 4, 5)])
        state = first_state(wiring, [(1, 0), (3, 2)])
        self.assertEqual([], open_cuts(state))
        self.assertTrue(is_locked(state, (0, 1)))
        state = first_state(wiring, [(1, 2)])
        self.assertEqual([(1, 2)], open_cuts(state))
        self.assertFalse(is_locked(state, (1, 2)))
        state = first_state(wiring, [(2, 1), (3, 0)])
        self.assertEqual([(0, 3), (1, 2)], open_cuts(state))
        self.assertEqual([False, False], [is_locked(STATE, cut) for cut in STATE[0]])
        self.assert_new_list(open_cuts, STATE)

    def test_working_off_a_cut_of_leaves(self):
        self.assertEqual((((12, 13),), ((0, 2), (1, 8), (3, 10), (4, 5), (6, 11))), next_state(WIRING, STATE, (7, 9)))

    def test_working_off_a_cut_of_nodes(self):
        self.assertEqual((((0, 3), (1, 2), (7, 9)), STATE[1]), next_state(WIRING, STATE, (12, 13)))

    def test_a_cut_becomes_locked(self):
        state = (((0, 3), (1, 2), (7, 9)), STATE[1])
        self.assertEqual([(0, 3), (1, 2), (7, 9)], open_cuts(state))
        wiring = Wiring([(0, 1), (2, 3)], [])
        state = next_state(wiring, first_state(wiring, [(0, 2), (1, 3)]), (0, 2))
        self.assertEqual((((1, 3),), ((1, 3),)), state)
        self.assertTrue(is_locked(state, (1, 3)))

    def test_errors_of_next_state(self):
        for cut in ((9, 7), (0, 1), (14, 15), (8, 9), (99, 100)):
            self.assert_raises(NoSuchCut, {}, next_state, WIRING, STATE, cut)
        wiring = Wiring([(0, 1), (2, 3)], [])
        state = first_state(wiring, [(1, 0)])
        self.assert_raises(Locked, {"cut": (0, 1)}, next_state, wiring, state, (0, 1))
        self.assert_raises(NoSuchCut, {}, next_state, wiring, state, (2, 3))


class LastStateTests(unittest.TestCase, Cases):
    def test_picks(self):
        # With the picks the cuts are worked off in different orders; each time four cuts are worked off.
        end = ((), ((4, 5), (6, 11), (8, 10)))
        for picks in ([], [0], [1], [1, 2, 1], [-1, -1, -1, -1, -1], [10 ** 20, -10 ** 20, 7, 5, 3, 1, 1, 1, 1],
                      (1, 1)):
            self.assertEqual((end, 4), last_state(WIRING, [(12, 13), (7, 9)], picks))
        self.assertEqual((first_state(WIRING, []), 0), last_state(WIRING, [], [3, 4]))

    def test_a_pick_is_taken_modulo_the_number_of_open_cuts(self):
        wiring = Wiring([(0, 1), (2, 3), (4, 5)], [])
        cuts = [(0, 3), (1, 4), (2, 5)]
        ends = {0: (((2, 5),), ((2, 5),)), 1: (((2, 5),), ((2, 5),)), 2: (((1, 4),), ((1, 4),))}
        for pick, end in ((0, 0), (1, 1), (2, 2), (3, 0), (-1, 2), (-2, 1), (-3, 0), (10 ** 30 + 1, 2), (-10 ** 30, 2)):
            self.assertEqual((ends[end], 2), last_state(wiring, cuts, [pick]), pick)
        self.assertEqual((((0, 3),), ((0, 3),)), last_state(wiring, cuts, [1, 1])[0])
        self.assertEqual((((0, 3),), ((0, 3),)), last_state(wiring, cuts, [-1, 3, 5, 5])[0])

    def test_every_order_of_working_off(self):
        ended = 0
        for wiring, cuts in small_cut_wirings(150, 74, most_trees=2):
            found = all_last_states(wiring, first_state(wiring, cuts))
            self.assertEqual(1, len({steps for _, steps in found}))
            rng = random.Random(len(found))
            for _ in range(5):
                picks = [rng.randint(-20, 20) for _ in range(rng.randint(0, 9))]
                self.assertIn(last_state(wiring, cuts, picks), found)
            if not all(state[0] for state, _ in found):
                ended += 1
                self.assertEqual(1, len(found))
        self.assertGreater(ended, 80)

    def test_40_links(self):
        for seed in range(10):
            wiring, cuts = cut_wiring(random.Random(seed), 9, 40)
            self.assertEqual(40, len(wiring.links))
            _, steps = last_state(wiring, cuts, [])
            for pick in (1, 5, -3):
                self.assertEqual(steps, last_state(wiring, cuts, [pick] * 99)[1])


class ArgumentsTests(unittest.TestCase):
    def test_arguments_stay_as_they_were(self):
        cuts, picks = [(13, 12), (7, 9)], [3, -1, 0]
        state = first_state(WIRING, cuts)
        for function, args in ((first_state, (cuts,)), (last_state, (cuts, picks)), (joined, (cuts,)),
                               (web_of_state, (state,)), (next_state, (state, (7, 9)))):
            kept = function(WIRING, *args)
            self.assertEqual(kept, function(WIRING, *args))
            self.assertEqual(([(13, 12), (7, 9)], [3, -1, 0]), (cuts, picks))
            self.assertEqual(STATE, state)


class JoinedTests(unittest.TestCase, Cases):
    def test_example_of_the_document(self):
        self.assertEqual(((0, 1),), joined(Wiring([(0, 1), (2, 3)], []), [(1, 2)]).links)

    def test_leaves_and_nodes_are_numbered_anew(self):
        wiring = joined(WIRING, [(12, 13), (7, 9)])
        self.assertEqual(Wiring([(0, 1), (2, 5), (3, 4)], [("both", 0, 1), ("together", 6, 2)]), wiring)
        self.assertEqual(Wiring([(0, 1), (2, 7), (3, 6), (4, 5)], [("both", 0, 1), ("together", 8, 2)]),
                         joined(WIRING, [(13, 12)]))

    def test_without_cuts(self):
        links = [(0, 7), (1, 8), (2, 9), (3, 10), (4, 5), (6, 11)]
        self.assertEqual(Wiring(links, WIRING.nodes), joined(WIRING, []))
        self.assertEqual(Wiring([(0, 1)], []), joined(Wiring([(1, 0)], []), []))

    def test_errors_in_their_order(self):
        wiring = Wiring([(0, 1), (2, 3)], [])
        self.assert_raises(BadCut, {"cut": 2}, joined, wiring, [(0, 1), (2, 3), (0, 0)])
        self.assert_raises(Nothing, {}, joined, wiring, [(0, 1), (2, 3)])
        self.assert_raises(Nothing, {}, joined, wiring, [(0, 2), (1, 3)])
        self.assert_raises(Nothing, {}, joined, Wiring([(0, 1)], []), [(0, 1)])
        self.assert_raises(Locked, {"cut": (0, 1)}, joined, wiring, [(1, 0)])
        four = Wiring([(0, 1), (2, 3), (4, 5), (6, 7)], [])
        self.assert_raises(Locked, {"cut": (2, 3)}, joined, four, [(4, 5), (1, 6), (3, 2)])
        self.assert_raises(Locked, {"cut": (3, 4)}, joined, four, [(4, 3), (5, 2), (0, 7)])

    def test_at_once_and_one_cut_after_another(self):
        count = 0
        for wiring, cuts in small_cut_wirings(300, 75):
            state, _ = last_state(wiring, cuts, [])
            whole_roots = [root for root in wiring.roots if all(root not in cut for cut in cuts)]
            if state[0] or not whole_roots or len(cuts) < 2:
                continue
            count += 1
            # The first cut is worked off alone; then the numbers of the other roots are those of the joined wiring.
            once = joined(wiring, cuts)
            first = joined(wiring, cuts[:1])
            left = [leaf for root in wiring.roots if root not in cuts[0] for leaf in wiring.leaves_under(root)]
            numbers = {leaf: index for index, leaf in enumerate(sorted(left))}
            gone = {term for root in cuts[0] for term in self.nodes_under(wiring, root)}
            kept = [term for term in range(wiring.leaves, wiring.terms) if term not in gone]
            numbers.update({term: len(left) + index for index, term in enumerate(kept)})
            rest = [(numbers[one], numbers[other]) for one, other in cuts[1:]]
            self.assertEqual(once, joined(first, rest))
        self.assertGreater(count, 30)

    def nodes_under(self, wiring, term):
        if term < wiring.leaves:
            return []
        _, left, right = wiring.nodes[term - wiring.leaves]
        return [term] + self.nodes_under(wiring, left) + self.nodes_under(wiring, right)

    def test_links_and_trails(self):
        count = 0
        for wiring, cuts in small_cut_wirings(300, 78):
            state, _ = last_state(wiring, cuts, [])
            if not state[0] and trail_links(wiring, cuts):
                count += 1
                outer = sorted(leaf for link in trail_links(wiring, cuts) for leaf in link)
                links = [(outer.index(low), outer.index(high)) for low, high in trail_links(wiring, cuts)]
                self.assertEqual(tuple(links), joined(wiring, cuts).links)
        self.assertGreater(count, 100)

    def test_sound_wirings_stay_sound(self):
        count = 0
        for seed in range(200):
            wiring = sound_wiring(seed, 6, 4)
            roots = [root for root in wiring.roots if root < wiring.leaves]
            cuts = [(one, other) for one, other in zip(roots[::2], roots[1::2])
                    if wiring.link_of(one) != wiring.link_of(other)][:1]
            web = web_of_state(wiring, first_state(wiring, cuts))
            if cuts and knot(web) == []:
                count += 1
                self.assertTrue(is_sound(joined(wiring, cuts)))
        self.assertGreater(count, 20)


class WebOfStateTests(unittest.TestCase, Cases):
    def test_first_state(self):
        web = web_of_state(WIRING, STATE)
        self.assertEqual((2,) * 6 + (3, 2, 3, 2), web.sides)
        self.assertEqual(((0, 0, 6, 0), (1, 0, 6, 1), (3, 0, 7, 0), (2, 0, 7, 0), (4, 0, 8, 0), (4, 1, 8, 1),
                          (8, 2, 9, 0), (5, 0, 9, 0), (0, 1, 2, 1), (6, 2, 7, 1)), web.ties)

    def test_on_the_way_and_at_the_end(self):
        state = next_state(WIRING, STATE, (12, 13))
        web = web_of_state(WIRING, state)
        self.assertEqual((2,) * 6 + (3, 2), web.sides)
        self.assertEqual(((4, 0, 6, 0), (4, 1, 6, 1), (6, 2, 7, 0), (5, 0, 7, 0), (0, 0, 3, 0), (1, 0, 2, 0),
                          (0, 1, 2, 1)), web.ties)
        web = web_of_state(WIRING, last_state(WIRING, [(12, 13), (7, 9)], [])[0])
        self.assertEqual((2, 2, 2, 3, 2), web.sides)
        self.assertEqual(((0, 0, 3, 0), (0, 1, 3, 1), (3, 2, 4, 0), (1, 0, 4, 0)), web.ties)

    def test_a_locked_cut_is_a_loop_that_turns(self):
        wiring = Wiring([(1, 0), (2, 3)], [])
        web = web_of_state(wiring, first_state(wiring, [(0, 1)]))
        self.assertEqual(((2, 2), ((0, 0, 0, 1),)), (web.sides, web.ties))

    def test_without_cuts_it_is_the_web_of_the_wiring(self):
        for wiring, _ in small_cut_wirings(50, 76):
            plain = joined(wiring, [])
            self.assertEqual(web_of_wiring(plain), web_of_state(plain, first_state(plain, [])))

    def test_against_the_words_of_the_document(self):
        rng = random.Random(76)
        for wiring, cuts in small_cut_wirings(150, 77):
            cut_terms = [term for cut in cuts for term in cut]
            for state in states_on_the_way(wiring, cuts, rng):
                tops = [root for root in wiring.roots if root not in cut_terms]
                tops += [term for cut in state[0] for term in cut]
                nodes = [term for term in range(wiring.leaves, wiring.terms)
                         if any(set(wiring.leaves_under(term)) <= set(wiring.leaves_under(top)) and term <= top
                                for top in tops)]
                sides = [2] * len(state[1]) + [3 if wiring.nodes[term - wiring.leaves][0] == "both" else 2
                                               for term in nodes]
                web = web_of_state(wiring, state)
                self.assertEqual(tuple(sides), web.sides)
                lower = {}
                for place, (low, high) in enumerate(state[1]):
                    lower.update({low: (place, 0), high: (place, 1)})
                for place, term in enumerate(nodes, start=len(state[1])):
                    lower[term] = (place, sides[place] - 1)
                ties = []
                for place, term in enumerate(nodes, start=len(state[1])):
                    _, left, right = wiring.nodes[term - wiring.leaves]
                    ties += [lower[left] + (place, 0), lower[right] + (place, sides[place] - 2)]
                ties += [lower[low] + lower[high] for low, high in state[0]]
                self.assertEqual(tuple(ties), web.ties)

    def test_the_last_state_without_cuts_has_the_web_of_the_joined_wiring(self):
        count = 0
        for wiring, cuts in small_cut_wirings(100, 79):
            state, _ = last_state(wiring, cuts, [])
            if not state[0] and state[1]:
                count += 1
                self.assertEqual(web_of_wiring(joined(wiring, cuts)), web_of_state(wiring, state))
        self.assertGreater(count, 30)

    def test_working_off_leaves_no_turning_cycle_behind_that_was_none_before(self):
        rng = random.Random(80)
        sound = 0
        for wiring, cuts in small_cut_wirings(200, 81):
            webs = [web_of_state(wiring, state) for state in states_on_the_way(wiring, cuts, rng)]
            if knot(webs[0]) == []:
                sound += 1
                self.assertEqual([[]] * len(webs), [knot(web) for web in webs])
        self.assertGreater(sound, 40)


if __name__ == "__main__":
    unittest.main()
