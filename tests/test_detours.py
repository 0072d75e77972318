"""Points 48 to 50: strict paths and pairings without two points."""

import random
import unittest

from helpers import Cases, all_pairings, odd_ears, odd_groups_without, random_paired, small_paired, steps_of

from comesapart.alternating import web_of_pairs
from comesapart.detours import is_strict_path, pairings_without, path_of_pairing, strict_path, strict_paths
from comesapart.errors import SamePoint, UnknownPoint
from comesapart.pairedwebs import PairedWeb
from comesapart.paths import is_turning_path, walk_places

# Ties 0 to 3 are the pairs 0-1, 2-3, 4-5, 6-7; ties 4 to 10 are free.
PAIRED = PairedWeb(4, [(1, 2), (3, 4), (2, 1), (5, 6), (1, 1), (2, 3), (6, 3)])
FUNCTIONS = (strict_path, strict_paths, pairings_without)


def strict_by_words(paired, first, last, steps):
    web = web_of_pairs(paired)
    if not steps or not is_turning_path(web, first, steps) or walk_places(web, first, steps)[-1] != last:
        return False
    return steps[0][0] < paired.pairs and steps[-1][0] < paired.pairs


def slow_strict_paths(paired, first, last):
    """Try all paths from the first point."""
    web = web_of_pairs(paired)
    found, chains = [], [[step] for step in web.steps_from(first)]
    while chains:
        chain = chains.pop()
        met = [first] + [web.head(step)[0] for step in chain]
        if len(set(met)) < len(met):
            continue
        if strict_by_words(paired, first, last, chain):
            found.append(chain)
        chains += [chain + [step] for step in web.steps_from(met[-1])]
    return sorted(found)


def couples(paired):
    return [(first, last) for first in range(paired.points) for last in range(paired.points) if first != last]


def points_but(paired, first, last):
    return [point for point in range(paired.points) if point not in (first, last)]


class ErrorTests(unittest.TestCase, Cases):
    def check(self, error, point, first, last):
        for function in FUNCTIONS:
            self.assert_raises(error, {"point": point}, function, PAIRED, first, last)
        for rest in ([], [0, 1], [-1, 99], [4]):
            self.assert_raises(error, {"point": point}, path_of_pairing, PAIRED, first, last, rest)
        for steps in ([], [(0, 0)], [(99, 7), (-1, 0)]):
            self.assert_raises(error, {"point": point}, is_strict_path, PAIRED, first, last, steps)

    def test_unknown_points(self):
        for wrong in (8, -1, 10 ** 20):
            self.check(UnknownPoint, wrong, wrong, 0)
            self.check(UnknownPoint, wrong, 0, wrong)
            self.check(UnknownPoint, wrong, wrong, 9)
            self.check(UnknownPoint, wrong, wrong, wrong)

    def test_equal_points(self):
        for point in (0, 7):
            self.check(SamePoint, point, point, point)

    def test_no_points(self):
        for function in FUNCTIONS:
            self.assert_raises(UnknownPoint, {"point": 0}, function, PairedWeb(0, []), 0, 0)


class IsStrictPathTests(unittest.TestCase):
    def test_strict_paths(self):
        for first, last, steps in ((0, 1, [(0, 0)]), (1, 0, [(0, 1)]), (0, 3, [(0, 0), (4, 0), (1, 0)]),
                                   (3, 0, [(1, 1), (6, 0), (0, 1)]),
                                   (0, 7, [(0, 0), (4, 0), (1, 0), (5, 0), (2, 0), (7, 0), (3, 0)])):
            self.assertIs(True, is_strict_path(PAIRED, first, last, steps))
            self.assertIs(True, is_strict_path(PAIRED, first, last, tuple(steps)))

    def test_wrong_lists(self):
        for first, last, steps in ((0, 1, []), (0, 1, [(0, 1)]), (1, 0, [(0, 0)]), (2, 3, [(9, 0)]), (0, 1, [(99, 0)]),
                                   (0, 1, [(-1, 0)]), (0, 1, [(0, 2)]), (0, 1, [(0, -1)]), (0, 3, [(0, 0)]),
                                   (0, 2, [(0, 0), (4, 0)]), (1, 3, [(4, 0), (1, 0)]), (1, 2, [(4, 0)]),
                                   (0, 3, [(0, 0), (1, 0)]), (0, 1, [(0, 0), (8, 0)]), (0, 1, [(0, 0), (0, 1), (0, 0)]),
                                   (2, 3, [(1, 0), (9, 1), (1, 0)]), (0, 7, [(0, 0), (4, 0), (1, 0), (10, 0), (3, 0)]),
                                   (0, 3, [(0, 0), (10 ** 20, 0), (1, 0)]), (0, 5, [(0, 0), (4, 0), (1, 0)])):
            self.assertIs(False, is_strict_path(PAIRED, first, last, steps))
            self.assertIs(False, is_strict_path(PAIRED, first, last, tuple(steps)))

    def test_all_short_lists(self):
        paired = PairedWeb(2, [(1, 2), (3, 0), (1, 1)])
        steps = steps_of(web_of_pairs(paired)) + [(5, 0), (-1, 0), (0, 2)]
        lists = [[]] + [[one] for one in steps] + [[one, two] for one in steps for two in steps]
        lists += [[one, two, three] for one in steps for two in steps for three in steps]
        for first, last in couples(paired):
            listed = strict_paths(paired, first, last)
            self.assertEqual(listed, sorted(found for found in lists if is_strict_path(paired, first, last, found)))


class StrictPathTests(unittest.TestCase, Cases):
    def check(self, paired, first, last):
        """The answer meets its condition, which also shows that the other word would be wrong."""
        word, shown = strict_path(paired, first, last)
        if word == "path":
            self.assertIs(list, shown.__class__)
            self.assertTrue(strict_by_words(paired, first, last, shown))
        else:
            self.assertEqual("barrier", word)
            rest = points_but(paired, first, last)
            self.assertEqual(sorted(set(shown) & set(rest)), shown)
            gone = set(shown) | {first, last}
            self.assertGreater(odd_groups_without(range(paired.points), paired.all_ties, gone), len(shown))
        return word

    def test_examples_of_the_document(self):
        self.assertEqual(("path", [(0, 0), (2, 0), (1, 0)]), strict_path(PairedWeb(2, [(1, 2)]), 0, 3))
        self.assertEqual(("barrier", []), strict_path(PairedWeb(2, [(1, 2)]), 1, 2))

    def test_partners_have_one_strict_path(self):
        for paired in (PAIRED, PairedWeb(1, [(0, 1), (1, 0), (0, 0)])):
            for first in range(paired.points):
                last = first ^ 1
                steps = [(first // 2, first % 2)]
                self.assertEqual(("path", steps), strict_path(paired, first, last))
                self.assertEqual([steps], strict_paths(paired, first, last))

    def test_all_strict_paths_in_order(self):
        self.assertEqual([[(0, 0), (4, 0), (1, 0)], [(0, 0), (6, 1), (1, 0)]], strict_paths(PAIRED, 0, 3))
        self.assertEqual([], strict_paths(PAIRED, 1, 3))
        self.assertEqual([[(1, 0), (5, 0), (2, 0), (7, 0), (3, 0)], [(1, 0), (10, 1), (3, 0)]],
                         strict_paths(PAIRED, 2, 7))

    def test_against_slow_searches(self):
        found = 0
        for paired in small_paired(120, 48, most_pairs=4, most_free=8):
            for first, last in couples(paired):
                expected = slow_strict_paths(paired, first, last)
                found += len(expected)
                self.assertEqual(expected, strict_paths(paired, first, last))
                self.assertEqual("path" if expected else "barrier", self.check(paired, first, last))
                chosen = pairings_without(paired, first, last)
                self.assertEqual(all_pairings(points_but(paired, first, last), paired.all_ties), chosen)
                paths = [path_of_pairing(paired, first, last, pairing) for pairing in chosen]
                self.assertEqual(set(map(tuple, expected)), set(map(tuple, paths)))
        self.assertGreater(found, 1000)

    def test_lists_do_not_try_dead_ends(self):
        # A turning path along the doubles can go on in very many ways, and all but the last tie lead astray.
        free = [(2 * pair + 1, 2 * pair + 2) for pair in range(40)] * 2 + [(1, 82), (83, 84)]
        paired = PairedWeb(44, free)
        self.assertEqual([[(0, 0), (124, 0), (41, 0), (125, 0), (42, 0)]], strict_paths(paired, 0, 85))

    def test_new_lists(self):
        self.assert_new_list(strict_paths, PAIRED, 0, 3)
        self.assert_new_list(pairings_without, PAIRED, 0, 3)
        self.assert_new_list(path_of_pairing, PAIRED, 0, 3, [2, 3, 4])
        for first, last in ((0, 3), (1, 3)):
            shown = strict_path(PAIRED, first, last)
            shown[1].append("changed")
            self.assertNotIn("changed", strict_path(PAIRED, first, last)[1])

    def test_odd_cycles_inside_of_odd_cycles(self):
        # Each point but 0 is left out by some pairing of the others, so 0 has a strict path to it, and 1 has none.
        for seed in range(3):
            paired = odd_ears(100, seed)
            for last in range(1, 200):
                self.assertEqual("path", self.check(paired, 0, last))
                self.assertEqual("path", self.check(paired, last, 0))
            for last in range(2, 200, 7):
                self.assertEqual("barrier", self.check(paired, 1, last))

    def test_large_paired_webs(self):
        rng = random.Random(49)
        words = []
        for free in (60, 100, 150, 200):
            paired = random_paired(rng, 100, free)
            words += [self.check(paired, *rng.sample(range(200), 2)) for _ in range(100)]
        self.assertEqual({"path", "barrier"}, set(words))
        chain = PairedWeb(100, [(2 * pair + 1, 2 * pair + 2) for pair in range(99)])
        self.assertEqual(199, len(strict_path(chain, 0, 199)[1]))
        self.assertEqual([strict_path(chain, 0, 199)[1]], strict_paths(chain, 0, 199))


class PairingsWithoutTests(unittest.TestCase):
    def test_ordinary_pairings(self):
        self.assertEqual([[1, 2, 3], [2, 3, 9]], pairings_without(PAIRED, 0, 1))
        self.assertEqual([[2, 3, 4], [2, 3, 6]], pairings_without(PAIRED, 0, 3))
        self.assertEqual([], pairings_without(PAIRED, 1, 3))
        self.assertEqual([[]], pairings_without(PairedWeb(1, [(0, 1)]), 1, 0))

    def test_path_of_pairing(self):
        self.assertEqual([(0, 0)], path_of_pairing(PAIRED, 0, 1, [1, 2, 3]))
        self.assertEqual([(0, 1)], path_of_pairing(PAIRED, 1, 0, (1, 2, 3)))
        self.assertEqual([(0, 0), (6, 1), (1, 0)], path_of_pairing(PAIRED, 0, 3, [2, 3, 6]))
        self.assertEqual([(1, 1), (4, 1), (0, 1)], path_of_pairing(PAIRED, 3, 0, [2, 3, 4]))

    def test_cycles_beside_the_path(self):
        paired = PairedWeb(4, [(1, 2), (5, 6), (7, 4)])
        self.assertEqual([[2, 3, 4], [4, 5, 6]], pairings_without(paired, 0, 3))
        for chosen in ([2, 3, 4], [4, 5, 6]):
            self.assertEqual([(0, 0), (4, 0), (1, 0)], path_of_pairing(paired, 0, 3, chosen))

    def test_other_lists_end(self):
        # What they give is not promised, but the program does not run on for ever.
        for chosen in ([], [0, 1, 2, 3], [4, 4], [5, 7, 9], [8]):
            try:
                path_of_pairing(PAIRED, 0, 7, chosen)
            except (KeyError, IndexError):
                pass


if __name__ == "__main__":
    unittest.main()
