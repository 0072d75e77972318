"""Points 68 to 70: pairs of leaves, moves, and wirings with given both pairs."""

import itertools
import random
import unittest

from helpers import Cases, small_wirings, sound_wiring

from comesapart.derivations import fault_in_derivation, find_derivation
from comesapart.errors import BadLink, NoLinks, TooLarge
from comesapart.moves import BadMove, NoTerm, both_pairs, heap_pairs, moved, moves_of, wiring_of_pairs
from comesapart.wirings import Wiring
from comesapart.wiringwebs import is_sound


def under(wiring, term):
    """Return the terms under a term as point 68 says."""
    if term < wiring.leaves:
        return {term}
    _, left, right = wiring.nodes[term - wiring.leaves]
    return {term} | under(wiring, left) | under(wiring, right)


def both_pairs_by_words(wiring):
    found = []
    for one, other in itertools.combinations(range(wiring.leaves), 2):
        for kind, left, right in wiring.nodes:
            parts = [under(wiring, left), under(wiring, right)]
            if any(one in part and other in rest for part, rest in (parts, parts[::-1])) and kind == "both":
                found.append((one, other))
    return found


def moved_by_words(leaves, pairs, move):
    """Return the pairs after the move, or None if it is none, in the words of point 69."""
    word, *lists = move
    if (word, len(lists)) not in (("switch", 3), ("part", 2)):
        return None
    inside = [leaf for members in lists for leaf in members]
    if [] in [list(members) for members in lists] or len(set(inside)) < len(inside):
        return None
    if not set(inside) <= set(range(leaves)):
        return None
    if any(list(members) != sorted(members) for members in lists):
        return None

    def paired(one, other):
        return (min(one, other), max(one, other)) in pairs

    for leaf in set(range(leaves)) - set(inside):
        if len({paired(leaf, other) for other in inside}) > 1:
            return None
    p, q = lists[:2]
    if word == "part":
        gone = [(one, other) for one in p for other in q]
    else:
        gone = [(one, other) for one in p for other in lists[2]]
        if any(paired(one, other) for one in p for other in q):
            return None
        if not all(paired(one, other) for one in q for other in lists[2]):
            return None
    if not all(paired(one, other) for one, other in gone):
        return None
    return [pair for pair in pairs if pair not in gone and pair[::-1] not in gone]


class PairsTests(unittest.TestCase, Cases):
    def test_both_pairs(self):
        wiring = Wiring([(0, 1), (2, 3)], [("together", 3, 1), ("both", 4, 0), ("both", 5, 2)])
        self.assertEqual([(0, 1), (0, 2), (0, 3), (1, 2), (2, 3)], both_pairs(wiring))
        self.assertEqual([], both_pairs(Wiring([(0, 1)], [("together", 1, 0)])))
        self.assertEqual([(0, 1)], both_pairs(Wiring([(0, 1)], [("both", 1, 0)])))
        self.assertEqual([], both_pairs(Wiring([(0, 1), (2, 3)], [])))

    def test_both_pairs_against_the_words_of_the_document(self):
        for wiring in small_wirings(100, 68, most_nodes=9):
            self.assertEqual(both_pairs_by_words(wiring), both_pairs(wiring))

    def test_heap_pairs(self):
        self.assertEqual([], heap_pairs([]))
        self.assertEqual([], heap_pairs([(1, 0)]))
        self.assertEqual([(0, 2), (0, 3), (1, 2), (1, 3)], heap_pairs([(1, 0), (2, 3)]))
        self.assertEqual([(0, 1), (0, 2), (1, 3), (2, 3)], heap_pairs(((3, 0), (2, 1))))
        links = [(leaf, 79 - leaf) for leaf in range(40)]
        expected = [(low, high) for low in range(80) for high in range(low + 1, 80) if low + high != 79]
        self.assertEqual(expected, heap_pairs(links))

    def test_new_lists(self):
        self.assert_new_list(heap_pairs, [(1, 0), (2, 3)])
        self.assert_new_list(both_pairs, Wiring([(0, 1)], [("both", 1, 0)]))


# Leaves 0 and 1 are apart, both are in pairs with 2 and 3, 2 and 3 are apart; leaf 4 is in pairs with all of them,
# and leaf 5 with none.
PAIRS = [(0, 2), (0, 3), (0, 4), (1, 2), (1, 3), (1, 4), (2, 4), (3, 4)]


class MovedTests(unittest.TestCase, Cases):
    def check_bad(self, *move, pairs=tuple(PAIRS)):
        self.assertIsNone(moved_by_words(6, list(pairs), move))
        self.assert_raises(BadMove, {}, moved, 6, list(pairs), move)

    def test_moves(self):
        self.assertEqual([(0, 4), (1, 2), (1, 3), (1, 4), (2, 4), (3, 4)],
                         moved(6, PAIRS, ("switch", [0], [1], [2, 3])))
        self.assertEqual([(0, 4), (1, 4), (2, 4), (3, 4)], moved(6, PAIRS, ("part", [2, 3], [0, 1])))
        self.assertEqual(PAIRS[:2] + PAIRS[3:5], moved(6, PAIRS, ("part", [0, 1, 2, 3], [4])))

    def test_tuples(self):
        self.assertEqual([(0, 4), (1, 4), (2, 4), (3, 4)], moved(6, tuple(PAIRS), ("part", (2, 3), (0, 1))))

    def test_words_and_numbers_of_lists(self):
        for move in (("switch",), ("switch", [0], [1]), ("switch", [0], [1], [2], [3]), ("part",), ("part", [0]),
                     ("part", [0], [2], [3]), ("", [0], [2]), ("Part", [0], [2]), ("split", [0, 1], [2, 3]),
                     ("both", [0, 1], [2, 3]), ("part ", [0, 1], [2, 3]), ("switch", [])):
            self.check_bad(*move)

    def test_empty_lists(self):
        for move in (("switch", [], [1], [2, 3]), ("switch", [0], [], [2, 3]), ("switch", [0], [1], []),
                     ("part", [], [2, 3]), ("part", [0, 1], []), ("part", [], []), ("switch", (), (), ())):
            self.check_bad(*move)

    def test_lists_that_descend_or_hold_a_leaf_twice(self):
        for move in (("switch", [0], [1], [3, 2]), ("switch", [0], [1, 1], [2, 3]), ("switch", [0, 0], [1], [2, 3]),
                     ("part", [1, 0], [2, 3]), ("part", [0, 1], [2, 3, 3]), ("part", [0, 1], [3, 2])):
            self.check_bad(*move)

    def test_leaves_in_two_of_the_lists(self):
        for move in (("switch", [0], [0], [2, 3]), ("switch", [0, 1], [1], [2, 3]), ("switch", [0], [1, 2], [2, 3]),
                     ("switch", [0, 2], [1], [2, 3]), ("part", [0, 1], [1]), ("part", [0, 1, 2], [2, 3])):
            self.check_bad(*move)

    def test_numbers_that_are_no_leaves(self):
        for number in (6, 10 ** 20):
            self.check_bad("part", [0, 1], [2, 3, number])
            self.check_bad("switch", [0], [1, number], [2, 3])
        self.check_bad("part", [-1, 0, 1], [2, 3])
        self.check_bad("switch", [-1], [1], [2, 3])

    def test_a_leaf_outside_that_is_in_pairs_with_some(self):
        self.check_bad("part", [0], [2, 3])
        self.check_bad("part", [0, 1], [2])
        self.check_bad("switch", [0], [1], [2])
        self.check_bad("part", [0, 1], [2, 3], pairs=PAIRS[:-1])
        self.check_bad("part", [0, 1], [2, 3], pairs=PAIRS + [(3, 5)])
        self.check_bad("switch", [0], [1], [2, 3], pairs=PAIRS + [(0, 5)])

    def test_leaves_that_must_be_apart(self):
        self.check_bad("switch", [0], [1], [2, 3], pairs=[(0, 1)] + PAIRS)
        self.check_bad("switch", [2, 3], [0, 1], [4])

    def test_leaves_that_must_be_in_pairs(self):
        base = [(0, 2), (0, 3), (1, 2), (1, 3)]
        self.assertEqual([(1, 2), (1, 3)], moved(4, base, ("switch", [0], [1], [2, 3])))
        for pair in base:
            pairs = [other for other in base if other != pair]
            self.assert_raises(BadMove, {}, moved, 4, pairs, ("switch", [0], [1], [2, 3]))
            self.assert_raises(BadMove, {}, moved, 4, pairs, ("part", [0, 1], [2, 3]))
        self.assertEqual([], moved(4, base, ("part", [0, 1], [2, 3])))
        self.assertEqual([(0, 1), (2, 3)], moved(4, [(0, 1)] + base + [(2, 3)], ("part", [0, 1], [2, 3])))

    def test_against_the_words_of_the_document(self):
        rng = random.Random(69)
        right = 0
        for _ in range(8000):
            leaves = rng.choice([2, 4])
            pairs = [pair for pair in itertools.combinations(range(leaves), 2) if rng.random() < 0.6]
            places = [rng.randrange(4) for _ in range(leaves)]
            lists = [[leaf for leaf in range(leaves) if places[leaf] == place] for place in range(rng.choice([2, 3]))]
            move = (rng.choice(["switch", "part"]), *lists)
            expected = moved_by_words(leaves, pairs, move)
            if expected is None:
                self.assert_raises(BadMove, {}, moved, leaves, pairs, move)
            else:
                right += 1
                self.assertEqual(expected, moved(leaves, pairs, move))
        self.assertGreater(right, 100)

    def test_new_lists_and_arguments_that_stay(self):
        self.assert_new_list(moved, 6, PAIRS, ("part", [2, 3], [0, 1]))


class AlongDerivationsTests(unittest.TestCase, Cases):
    def test_moves_of_each_step(self):
        # The together of leaf 1 and leaf 3, then a both that takes leaf 0 of that piece.
        wiring = Wiring([(0, 1), (2, 3), (4, 5)], [("both", 0, 2), ("together", 6, 3)])
        steps = [("link", 0), ("link", 1), ("link", 2), ("both", 0), ("together", 1), ("beside", 2, 0)]
        self.assertIsNone(fault_in_derivation(wiring, steps))
        self.assertEqual([("switch", [1], [0], [2, 3]), ("switch", [3], [2], [0]), ("part", [4, 5], [0, 1, 2, 3])],
                         moves_of(wiring, steps))

    def test_moves_with_an_empty_list_are_left_out(self):
        whole = Wiring([(0, 1), (2, 3)], [("together", 1, 0), ("together", 2, 3), ("both", 4, 5)])
        self.assertEqual([], moves_of(whole, find_derivation(whole)))
        half = Wiring([(0, 1), (2, 3)], [("together", 1, 0), ("both", 2, 4)])
        self.assertEqual([("switch", [3], [2], [0, 1])], moves_of(half, find_derivation(half)))
        half = Wiring([(0, 1), (2, 3)], [("together", 1, 0), ("both", 4, 2)])
        self.assertEqual([("switch", [3], [2], [0, 1])], moves_of(half, find_derivation(half)))

    def test_links_alone(self):
        self.assertEqual([], moves_of(Wiring([(0, 1)], []), [("link", 0)]))
        self.assertEqual([("part", [2, 3], [0, 1])],
                         moves_of(Wiring([(0, 1), (2, 3)], []), (("link", 0), ("link", 1), ("beside", 1, 0))))

    def test_moves_lead_from_heap_pairs_to_both_pairs(self):
        wirings = [wiring for wiring in small_wirings(250, 70, most_nodes=9) if is_sound(wiring)]
        for links, boths in ((8, 7), (12, 5), (40, 30)):
            wirings += [sound_wiring(seed, links, boths) for seed in range(6)]
        self.assertGreater(len(wirings), 80)
        for wiring in wirings:
            pairs = heap_pairs(wiring.links)
            for move in moves_of(wiring, find_derivation(wiring)):
                after = moved(wiring.leaves, pairs, move)
                self.assertLess(len(after), len(pairs))
                pairs = after
            self.assertEqual(both_pairs(wiring), pairs)

    def test_each_list_is_new(self):
        wiring = Wiring([(0, 1), (2, 3), (4, 5)], [("both", 0, 2)])
        steps = [("link", 0), ("link", 1), ("link", 2), ("both", 0), ("beside", 2, 0)]
        self.assert_new_list(moves_of, wiring, steps)
        kept = moves_of(wiring, steps)
        for move in moves_of(wiring, steps):
            self.assertIs(tuple, move.__class__)
            for members in move[1:]:
                members.append("changed")
        self.assertEqual(kept, moves_of(wiring, steps))
        first, second = moves_of(wiring, steps)[:2]
        first[3].append("changed")
        self.assertEqual(("switch", [3], [2], [0]), second)


class WiringOfPairsTests(unittest.TestCase, Cases):
    def check(self, links, pairs):
        wiring = wiring_of_pairs(links, pairs)
        self.assertEqual(tuple(links), wiring.links)
        self.assertEqual(1, len(wiring.roots))
        self.assertEqual(pairs, both_pairs(wiring))

    def test_pairs_of_wirings(self):
        self.check([(1, 0)], [])
        self.check([(1, 0)], [(0, 1)])
        self.check([(0, 3), (2, 1)], [])
        self.check([(0, 3), (2, 1)], [(0, 1), (0, 2), (0, 3), (1, 2), (1, 3), (2, 3)])
        for seed in range(150):
            wiring = sound_wiring(seed, 4, seed % 4)
            roots, nodes = list(wiring.roots), list(wiring.nodes)
            rng = random.Random(seed)
            while len(roots) > 1:
                rng.shuffle(roots)
                nodes.append((rng.choice(["both", "together"]), roots.pop(), roots.pop()))
                roots.append(wiring.leaves + len(nodes) - 1)
            self.check(wiring.links, both_pairs(Wiring(wiring.links, nodes)))

    def test_all_pairs_of_four_leaves(self):
        # Of the graphs over four points, only the twelve chains of three pairs are no pairs of a wiring.
        bad = 0
        everything = list(itertools.combinations(range(4), 2))
        for count in range(7):
            for pairs in itertools.combinations(everything, count):
                degrees = sorted(sum(leaf in pair for pair in pairs) for leaf in range(4))
                if count == 3 and degrees == [1, 1, 2, 2]:
                    bad += 1
                    self.assert_raises(NoTerm, {}, wiring_of_pairs, [(0, 1), (2, 3)], list(pairs))
                else:
                    self.check([(0, 1), (2, 3)], list(pairs))
        self.assertEqual(12, bad)

    def test_pairs_of_numbers_that_are_no_leaves(self):
        for pair in ((0, 4), (4, 5), (0, 10 ** 20)):
            self.assert_raises(NoTerm, {}, wiring_of_pairs, [(0, 1), (2, 3)], [(0, 1), pair])
        self.assert_raises(NoTerm, {}, wiring_of_pairs, [(0, 1), (2, 3)], [(-1, 0), (0, 1)])

    def test_links_that_are_refused(self):
        chain = [(0, 1), (1, 2), (2, 3)]
        self.assert_raises(NoLinks, {}, wiring_of_pairs, [], chain)
        self.assert_raises(BadLink, {"link": 1}, wiring_of_pairs, [(0, 1), (2, 2)], chain)
        self.assert_raises(BadLink, {"link": 0}, wiring_of_pairs, [(0, 4), (2, 2)], chain)
        self.assert_raises(BadLink, {"link": 1}, wiring_of_pairs, [(0, 1), (1, 2)], chain)
        self.assert_raises(TooLarge, {"limit": 40}, wiring_of_pairs, [(9, 9)] * 41, chain)

    def test_40_links(self):
        links = [(2 * link + 1, 2 * link) for link in range(40)]
        # Each leaf in turn is joined by a both or by a together, which gives the deepest nodes.
        for parity in (0, 1):
            pairs = [(low, high) for low in range(80) for high in range(low + 1, 80) if high % 2 == parity]
            self.check(links, pairs)
        self.check(links, [])
        self.check(links, list(itertools.combinations(range(80), 2)))
        self.check(links, heap_pairs(links))
        self.assert_raises(NoTerm, {}, wiring_of_pairs, links, [(leaf, leaf + 1) for leaf in range(79)])

    def test_tuples_may_be_passed(self):
        wiring = wiring_of_pairs(((0, 1), (2, 3)), ((0, 1), (0, 2)))
        self.assertEqual([(0, 1), (0, 2)], both_pairs(wiring))


if __name__ == "__main__":
    unittest.main()
