"""Points 77 and 78: opposite leaves, trails and closed trails."""

import random
import unittest

from helpers import Cases, cut_wiring, small_cut_wirings

from comesapart.errors import UnknownTerm
from comesapart.joining import BadCut, last_state
from comesapart.trails import NotOuter, closed_trails, opposite_leaf, trail, trail_links
from comesapart.wirings import Wiring

# Roots: both 12 over 0, 1 and together 13 over 2, 3; the leaves 4 to 11.
WIRING = Wiring([(0, 7), (8, 1), (2, 9), (3, 10), (4, 5), (11, 6)], [("both", 0, 1), ("together", 3, 2)])
CUTS = [(13, 12), (7, 9)]
# Closed trails over 0, 1 and over 3, 5, 2, 4, and one trail over the leaves 6 and 7.
CLOSED = Wiring([(1, 0), (5, 3), (4, 2), (6, 7)], [])
CLOSED_CUTS = [(0, 1), (5, 2), (3, 4)]


def opposite_by_words(wiring, cuts, leaf):
    """Go to the leaf from its root, and in the same way under the other term of the cut."""
    turns, term = [], leaf
    while wiring.parent(term) is not None:
        node = wiring.parent(term)
        turns.append(wiring.nodes[node].index(term, 1))
        term = wiring.leaves + node
    for cut in cuts:
        if term in cut:
            other = cut[0] if cut[1] == term else cut[1]
            for part in turns[::-1]:
                other = wiring.nodes[other - wiring.leaves][part]
            return other
    return None


class OppositeLeafTests(unittest.TestCase, Cases):
    def test_opposite_leaves(self):
        self.assertEqual([3, 2, 1, 0, None, None, None, 9, None, 7, None, None],
                         [opposite_leaf(WIRING, CUTS, leaf) for leaf in range(12)])
        self.assertIsNone(opposite_leaf(WIRING, [], 0))

    def test_against_the_words_of_the_document(self):
        for wiring, cuts in small_cut_wirings(100, 77):
            for leaf in range(wiring.leaves):
                self.assertEqual(opposite_by_words(wiring, cuts, leaf), opposite_leaf(wiring, cuts, leaf))

    def test_errors(self):
        for function in (opposite_leaf, trail):
            for leaf in (12, 13, -1, 99, 10 ** 20):
                self.assert_raises(UnknownTerm, {"term": leaf}, function, WIRING, CUTS, leaf)
                self.assert_raises(BadCut, {"cut": 1}, function, WIRING, [(7, 9), (0, 8)], leaf)
            self.assert_raises(BadCut, {"cut": 0}, function, WIRING, [(4, 4)], 0)
        for leaf in (0, 1, 2, 3, 7, 9):
            self.assert_raises(NotOuter, {}, trail, WIRING, CUTS, leaf)
        self.assert_raises(BadCut, {"cut": 1}, trail, WIRING, [(13, 12), (7, 13)], 0)


class TrailTests(unittest.TestCase, Cases):
    def test_example_of_the_document(self):
        self.assertEqual([0, 1, 2, 3], trail(Wiring([(0, 1), (2, 3)], []), [(1, 2)], 0))

    def test_trails(self):
        self.assertEqual([8, 1, 2, 9, 7, 0, 3, 10], trail(WIRING, CUTS, 8))
        self.assertEqual([10, 3, 0, 7, 9, 2, 1, 8], trail(WIRING, CUTS, 10))
        self.assertEqual([4, 5], trail(WIRING, CUTS, 4))
        self.assertEqual([11, 6], trail(WIRING, tuple(CUTS), 11))
        self.assertEqual([0, 7], trail(WIRING, [], 0))

    def test_trail_links(self):
        self.assertEqual([(4, 5), (6, 11), (8, 10)], trail_links(WIRING, CUTS))
        self.assertEqual([(0, 7), (1, 8), (2, 9), (3, 10), (4, 5), (6, 11)], trail_links(WIRING, []))
        self.assertEqual([(6, 7)], trail_links(CLOSED, CLOSED_CUTS))
        self.assertEqual([], trail_links(Wiring([(0, 1)], []), [(1, 0)]))

    def test_closed_trails(self):
        self.assertEqual([], closed_trails(WIRING, CUTS))
        self.assertEqual([[0, 1], [2, 4, 3, 5]], closed_trails(CLOSED, CLOSED_CUTS))
        self.assertEqual([[0, 1]], closed_trails(Wiring([(0, 1)], []), [(1, 0)]))
        self.assertEqual([[0, 1, 3, 2]], closed_trails(Wiring([(0, 1), (2, 3)], []), [(0, 2), (3, 1)]))

    def test_new_lists(self):
        self.assert_new_list(trail, WIRING, CUTS, 8)
        self.assert_new_list(trail_links, WIRING, CUTS)
        self.assert_new_list(closed_trails, CLOSED, CLOSED_CUTS)

    def check(self, wiring, cuts, picks):
        state, _ = last_state(wiring, cuts, picks)
        opposite = {leaf: opposite_leaf(wiring, cuts, leaf) for leaf in range(wiring.leaves)}
        met = []
        for leaf in range(wiring.leaves):
            if opposite[leaf] is None:
                leaves = trail(wiring, cuts, leaf)
                self.assertEqual(leaves[::-1], trail(wiring, cuts, leaves[-1]))
                self.assertIsNone(opposite[leaves[-1]])
                self.assertTrue(all(opposite[other] is not None for other in leaves[1:-1]))
                self.check_leaves(wiring, opposite, leaves)
                if leaf < leaves[-1]:
                    met += leaves
                    self.assertIn((leaf, leaves[-1]), trail_links(wiring, cuts))
        found = closed_trails(wiring, cuts)
        self.assertEqual(sorted(found), found)
        for leaves in found:
            self.check_leaves(wiring, opposite, leaves)
            self.assertEqual(min(leaves), leaves[0])
            self.assertEqual(leaves[0], opposite[leaves[-1]])
            met += leaves
        self.assertEqual(list(range(wiring.leaves)), sorted(met))
        # The last state has a link for each trail, and a locked cut and its link for each closed trail.
        self.assertEqual(len(found), len(state[0]))
        self.assertEqual(sorted(trail_links(wiring, cuts) + list(state[0])), list(state[1]))
        for leaves in found:
            self.assertEqual(1, len([cut for cut in state[0] if cut[0] in leaves and cut[1] in leaves]))
        return found

    def check_leaves(self, wiring, opposite, leaves):
        for at in range(1, len(leaves)):
            before = leaves[at - 1]
            self.assertEqual(wiring.mate(before) if at % 2 else opposite[before], leaves[at])

    def test_trails_and_the_last_state(self):
        rng = random.Random(78)
        closed = 0
        for wiring, cuts in small_cut_wirings(250, 79):
            closed += len(self.check(wiring, cuts, [rng.randint(-9, 9) for _ in range(9)]))
        self.assertGreater(closed, 50)
        for seed in range(8):
            self.check(*cut_wiring(random.Random(seed), 12, 40), [])


if __name__ == "__main__":
    unittest.main()
