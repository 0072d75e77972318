"""Points 59 and 60: the inverse of the skew table."""

import random
import unittest

from helpers import Cases, all_pairings, random_paired, small_paired

from comesapart.bridges import is_only_pairing
from comesapart.detours import pairings_without, strict_path, strict_paths
from comesapart.errors import SamePoint, UnknownPoint
from comesapart.inverses import inverse_entry, never_zero, path_products
from comesapart.pairedwebs import PairedWeb
from comesapart.pfaffians import entry, pfaffian
from comesapart.sums import Sum

PAIRED = PairedWeb(2, [(1, 2), (3, 0), (1, 1), (2, 3)])
ZERO = Sum([])


class InverseTests(unittest.TestCase, Cases):
    def test_ordinary_entries(self):
        chain = PairedWeb(2, [(1, 2)])
        whole = Sum([(1, [0, 1])])
        self.assertEqual((Sum([(-1, [1])]), whole), inverse_entry(chain, 0, 1))
        self.assertEqual((Sum([(1, [1])]), whole), inverse_entry(chain, 1, 0))
        self.assertEqual((ZERO, whole), inverse_entry(chain, 0, 2))
        self.assertEqual((Sum([(-1, [2])]), whole), inverse_entry(chain, 0, 3))
        self.assertEqual((Sum([(-1, [0])]), whole), inverse_entry(chain, 2, 3))
        self.assertEqual((ZERO, whole), inverse_entry(chain, 2, 2))
        self.assertEqual(ZERO, inverse_entry(PairedWeb(1, [(1, 1)]), 1, 1)[0])

    def test_the_signs_of_all_places(self):
        for paired in small_paired(60, 59, most_pairs=3):
            points = list(range(paired.points))
            for i in points:
                for j in points:
                    numerator, denominator = inverse_entry(paired, i, j)
                    rest = pfaffian(paired, [point for point in points if point not in (i, j)])
                    sign = 0 if i == j else (1 if (i + j) % 2 == 0 else -1) * (1 if i < j else -1)
                    self.assertEqual((sign * rest, pfaffian(paired, points)), (numerator, denominator))

    def test_the_table_times_its_inverse(self):
        for paired in small_paired(60, 60, most_pairs=4, most_free=8):
            points = range(paired.points)
            for i in points:
                for k in points:
                    total = ZERO
                    for j in points:
                        total = total + inverse_entry(paired, i, j)[0] * entry(paired, j, k)
                    self.assertEqual(pfaffian(paired, list(points)) if i == k else ZERO, total)

    def test_errors(self):
        for function in (inverse_entry, never_zero, path_products):
            for wrong in (4, -1, 10 ** 20):
                self.assert_raises(UnknownPoint, {"point": wrong}, function, PAIRED, wrong, 0)
                self.assert_raises(UnknownPoint, {"point": wrong}, function, PAIRED, 0, wrong)
                self.assert_raises(UnknownPoint, {"point": wrong}, function, PAIRED, wrong, 99)
                self.assert_raises(UnknownPoint, {"point": wrong}, function, PAIRED, wrong, wrong)
        self.assert_raises(SamePoint, {"point": 2}, path_products, PAIRED, 2, 2)


class NeverZeroTests(unittest.TestCase):
    def test_ordinary_entries(self):
        chain = PairedWeb(2, [(1, 2)])
        self.assertEqual([[False, True, False, True], [True, False, False, False], [False, False, False, True],
                          [True, False, True, False]],
                         [[never_zero(chain, i, j) for j in range(4)] for i in range(4)])
        self.assertIs(False, never_zero(PAIRED, 0, 1))
        self.assertIs(True, never_zero(PAIRED, 2, 3))

    def test_against_all_pairings(self):
        true = 0
        for paired in small_paired(120, 61, most_pairs=4, most_free=8):
            for i in range(paired.points):
                for j in range(paired.points):
                    rest = [point for point in range(paired.points) if point not in (i, j)]
                    expected = i != j and len(all_pairings(rest, paired.all_ties)) == 1
                    self.assertIs(expected, never_zero(paired, i, j))
                    true += expected
        self.assertGreater(true, 300)

    def test_large_paired_webs(self):
        paired = random_paired(random.Random(62), 100, 200)
        for j in range(1, 60):
            if strict_path(paired, 0, j)[0] == "barrier":
                self.assertIs(False, never_zero(paired, 0, j))
        chain = PairedWeb(100, [(2 * pair + 1, 2 * pair + 2) for pair in range(99)] * 2)
        self.assertTrue(is_only_pairing(chain))
        self.assertEqual([True, True, False, False, False],
                         [never_zero(chain, i, j) for i, j in ((0, 1), (198, 199), (0, 3), (0, 199), (1, 3))])
        # As many free ties between the other points as can be.
        self.assertIs(False, never_zero(PairedWeb(100, [(2, 3)] * 200), 0, 1))


class PathProductsTests(unittest.TestCase, Cases):
    def test_ordinary_products(self):
        self.assertEqual([([], [0])], path_products(PAIRED, 0, 1))
        self.assertEqual([([2], [0, 1])], path_products(PAIRED, 0, 3))
        self.assertEqual([([2], [0, 1])], path_products(PAIRED, 3, 0))
        self.assertEqual([], path_products(PAIRED, 0, 2))
        self.assertEqual([([4, 5], [0, 1, 2]), ([5, 6], [0, 1, 2])],
                         path_products(PairedWeb(4, [(5, 2), (1, 4), (2, 5)]), 0, 3))

    def test_in_the_order_of_the_strict_paths(self):
        for paired in small_paired(80, 63):
            for i in range(paired.points):
                for j in range(paired.points):
                    if i != j:
                        products = path_products(paired, i, j)
                        paths = strict_paths(paired, i, j)
                        self.assertEqual(len(paths), len(products))
                        for (free, pairs), steps in zip(products, paths):
                            self.assertEqual((sorted(free), sorted(pairs)), (free, pairs))
                            self.assertEqual(sorted(tie for tie, _ in steps), pairs + free)
                            self.assertTrue(all(tie >= paired.pairs for tie in free))
                        self.assertEqual(bool(products), bool(pairings_without(paired, i, j)))

    def test_the_only_pairing_gives_the_numerators(self):
        # Each strict path, with the pairs that it does not walk, is one product of the numerator.
        for paired in small_paired(150, 64):
            if is_only_pairing(paired):
                for i in range(paired.points):
                    for j in range(paired.points):
                        if i != j:
                            found = sorted(weights for _, weights in inverse_entry(paired, i, j)[0].products)
                            others = [tuple(sorted(free + [pair for pair in range(paired.pairs) if pair not in pairs]))
                                      for free, pairs in path_products(paired, i, j)]
                            self.assertEqual(sorted(others), found)

    def test_new_lists(self):
        self.assert_new_list(path_products, PAIRED, 0, 3)
        path_products(PAIRED, 0, 3)[0][0].append("changed")
        self.assertEqual([([2], [0, 1])], path_products(PAIRED, 0, 3))


if __name__ == "__main__":
    unittest.main()
