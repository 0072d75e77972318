"""Point 12: wirings."""

import unittest

from helpers import Cases

from comesapart.errors import BadLink, BadNode, NoLinks, TooLarge, UnknownTerm
from comesapart.wirings import Wiring

LINKS = [(0, 2), (5, 1), (3, 4)]
NODES = [("together", 4, 0), ("both", 6, 5), ("both", 1, 7)]
WIRING = Wiring(LINKS, NODES)


class MakingTests(unittest.TestCase, Cases):
    def test_fields_are_tuples_of_tuples(self):
        self.assertEqual(tuple(LINKS), WIRING.links)
        self.assertEqual(tuple(NODES), WIRING.nodes)
        for value in (WIRING.links, WIRING.links[0], WIRING.nodes, WIRING.nodes[0]):
            self.assertIs(tuple, value.__class__)

    def test_tuples_may_be_passed(self):
        self.assertEqual(WIRING, Wiring(tuple(LINKS), tuple(NODES)))

    def test_later_changes_to_the_arguments_have_no_effect(self):
        links, nodes = list(LINKS), list(NODES)
        wiring = Wiring(links, nodes)
        links.pop()
        nodes.pop()
        self.assertEqual(WIRING, wiring)

    def test_limits(self):
        self.assertEqual(40, Wiring.MOST_LINKS)
        self.assertEqual(2, Wiring([(0, 1)], []).leaves)
        self.assertEqual(80, Wiring([(2 * k, 2 * k + 1) for k in range(40)], []).leaves)
        self.assert_raises(NoLinks, {}, Wiring, [], [])
        self.assert_raises(TooLarge, {"limit": 40}, Wiring, [(2 * k, 2 * k + 1) for k in range(41)], [])

    def test_order_of_the_errors(self):
        self.assert_raises(NoLinks, {}, Wiring, [], [("neither", 0, 0)])
        self.assert_raises(TooLarge, {"limit": 40}, Wiring, [(99, 99)] * 41, [("neither", 0, 0)])
        self.assert_raises(BadLink, {"link": 1}, Wiring, [(0, 1), (2, 4)], [("neither", 0, 0)])

    def test_bad_links(self):
        for link in ((4, 2), (2, 4), (-1, 2), (2, -1), (10 ** 20, 2), (0, 2), (2, 1), (2, 2), (3, 3), (4, 4)):
            self.assert_raises(BadLink, {"link": 1}, Wiring, [(0, 1), link], [])
        self.assert_raises(BadLink, {"link": 0}, Wiring, [(9, 1), (2, 2)], [])
        self.assert_raises(BadLink, {"link": 1}, Wiring, [(0, 1), (1, 2), (9, 9)], [])

    def test_bad_kinds(self):
        for kind in ("", "Both", "both ", "link", "togethe"):
            self.assert_raises(BadNode, {"node": 1}, Wiring, [(0, 1), (2, 3)], [("both", 0, 1), (kind, 2, 3)])

    def test_bad_parts(self):
        for parts in ((5, 2), (2, 5), (6, 2), (-1, 2), (2, -1), (10 ** 20, 2), (0, 2), (2, 1), (2, 2), (4, 4)):
            nodes = [("both", 0, 1), ("together", *parts), ("neither", 9, 9)]
            self.assert_raises(BadNode, {"node": 1}, Wiring, [(0, 1), (2, 3)], nodes)

    def test_a_node_may_have_earlier_nodes_as_parts(self):
        wiring = Wiring([(0, 1), (2, 3)], [("both", 0, 2), ("together", 4, 1), ("both", 5, 3)])
        self.assertEqual((6,), wiring.roots)

    def test_most_nodes(self):
        links = [(2 * k, 2 * k + 1) for k in range(40)]
        nodes = [("both", 0, 1)] + [("both", k + 1, 79 + k) for k in range(1, 79)]
        wiring = Wiring(links, nodes)
        self.assertEqual((159, 79, (158,)), (wiring.terms, wiring.boths, wiring.roots))
        self.assertEqual(list(range(80)), wiring.leaves_under(158))


class TermTests(unittest.TestCase, Cases):
    def test_numbers(self):
        self.assertEqual((6, 9, 2), (WIRING.leaves, WIRING.terms, WIRING.boths))
        bare = Wiring([(1, 0)], [])
        self.assertEqual((2, 2, 0), (bare.leaves, bare.terms, bare.boths))

    def test_roots(self):
        self.assertEqual((2, 3, 8), WIRING.roots)
        self.assertEqual((0, 1), Wiring([(1, 0)], []).roots)
        self.assertIs(tuple, WIRING.roots.__class__)

    def test_contains(self):
        self.assertEqual([True, True, False, False, False], [term in WIRING for term in (0, 8, 9, -1, 10 ** 20)])

    def test_parent(self):
        self.assertEqual([0, 2, None, None, 0, 1, 1, 2, None], [WIRING.parent(term) for term in range(9)])

    def test_leaves_under(self):
        expected = [[0], [1], [2], [3], [4], [5], [0, 4], [0, 4, 5], [0, 1, 4, 5]]
        self.assertEqual(expected, [WIRING.leaves_under(term) for term in range(9)])
        self.assert_new_list(WIRING.leaves_under, 8)
        self.assert_new_list(WIRING.leaves_under, 0)

    def test_links_and_mates(self):
        self.assertEqual([0, 1, 0, 2, 2, 1], [WIRING.link_of(leaf) for leaf in range(6)])
        self.assertEqual([2, 5, 0, 4, 3, 1], [WIRING.mate(leaf) for leaf in range(6)])

    def test_unknown_terms(self):
        for term in (9, -1, 10 ** 20):
            for function in (WIRING.parent, WIRING.leaves_under, WIRING.link_of, WIRING.mate):
                self.assert_raises(UnknownTerm, {"term": term}, function, term)

    def test_a_node_is_no_leaf(self):
        for term in (6, 7, 8):
            self.assert_raises(UnknownTerm, {"term": term}, WIRING.link_of, term)
            self.assert_raises(UnknownTerm, {"term": term}, WIRING.mate, term)

    def test_equality(self):
        self.assertTrue(WIRING == Wiring(LINKS, NODES))
        self.assertFalse(WIRING == Wiring(LINKS, NODES[:2]))
        self.assertFalse(Wiring([(0, 1)], []) == Wiring([(1, 0)], []))
        self.assertTrue(Wiring([(0, 1), (2, 3)], []) != Wiring([(2, 3), (0, 1)], []))
        self.assertFalse(Wiring([(0, 1)], [("both", 0, 1)]) == Wiring([(0, 1)], [("together", 0, 1)]))

    def test_a_wiring_equals_no_other_value(self):
        self.assert_only_equal_to_its_class(WIRING, WIRING.links, (WIRING.links, WIRING.nodes))


if __name__ == "__main__":
    unittest.main()
