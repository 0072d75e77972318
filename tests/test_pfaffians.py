"""Points 56 and 57: the skew table, Pfaffians, pairing sums and determinants."""

import itertools
import random
import unittest

from helpers import Cases, all_pairings, small_paired

from comesapart.errors import TooLarge, UnknownPoint
from comesapart.pairedwebs import PairedWeb
from comesapart.pfaffians import crossing_sign, determinant, entry, pairing_sum, pfaffian
from comesapart.sums import Sum

# Equal ties 2 and 5, a tie of partners 3 and a loop 4.
PAIRED = PairedWeb(2, [(1, 2), (3, 2), (1, 1), (2, 1), (0, 3)])
ZERO = Sum([])


def pfaffian_by_words(paired, points):
    """Expand by the first point, as the document defines it."""
    if not points:
        return Sum.number(1)
    if len(points) % 2:
        return ZERO
    total = ZERO
    for k in range(1, len(points)):
        part = entry(paired, points[0], points[k]) * pfaffian_by_words(paired, points[1:k] + points[k + 1:])
        total = total + part if k % 2 else total - part
    return total


def determinant_by_words(paired, points):
    """Add up all orders of the columns."""
    total = ZERO
    for columns in itertools.permutations(points):
        part = Sum.number(1)
        for row, column in zip(points, columns):
            part = part * entry(paired, row, column)
        turned = [1 for first, second in itertools.combinations(columns, 2) if first > second]
        total = total - part if len(turned) % 2 else total + part
    return total


class EntryTests(unittest.TestCase, Cases):
    def test_entries(self):
        self.assertEqual(((1, (0,)),), entry(PAIRED, 0, 1).products)
        self.assertEqual(((1, (2,)), (1, (5,))), entry(PAIRED, 1, 2).products)
        self.assertEqual(((-1, (2,)), (-1, (5,))), entry(PAIRED, 2, 1).products)
        self.assertEqual(((1, (1,)), (1, (3,))), entry(PAIRED, 2, 3).products)
        self.assertEqual([ZERO, ZERO, ZERO], [entry(PAIRED, 1, 1), entry(PAIRED, 0, 2), entry(PAIRED, 3, 3)])

    def test_the_table_is_skew(self):
        for paired in small_paired(50, 56):
            for i, j in itertools.product(range(paired.points), repeat=2):
                self.assertEqual(entry(paired, i, j), -entry(paired, j, i))

    def test_errors(self):
        for wrong in (4, -1, 10 ** 20):
            self.assert_raises(UnknownPoint, {"point": wrong}, entry, PAIRED, wrong, 0)
            self.assert_raises(UnknownPoint, {"point": wrong}, entry, PAIRED, 0, wrong)
            self.assert_raises(UnknownPoint, {"point": wrong}, entry, PAIRED, wrong, 99)
            self.assert_raises(UnknownPoint, {"point": wrong}, entry, PAIRED, wrong, wrong)


class CrossingSignTests(unittest.TestCase):
    def test_crossings(self):
        for ties, sign in (([], 1), ([(0, 1)], 1), ([(0, 2), (1, 3)], -1), ([(2, 0), (3, 1)], -1),
                           ([(0, 3), (1, 2)], 1), ([(0, 1), (2, 3)], 1), ([(0, 3), (1, 4), (2, 5)], -1), ([(5, 1), (0, 2), (4, 3)], -1),
                           ([(0, 2), (5, 3), (4, 1)], 1), ([(-9, 10 ** 20), (0, 10 ** 21)], -1)):
            self.assertEqual(sign, crossing_sign(ties))
            self.assertEqual(sign, crossing_sign(tuple(ties[::-1])))


class PfaffianTests(unittest.TestCase, Cases):
    def test_example_of_the_document(self):
        self.assertEqual(((1, (0, 1)), (1, (2, 3))), pfaffian(PairedWeb(2, [(1, 2), (0, 3)]), [0, 1, 2, 3]).products)

    def test_a_crossing(self):
        paired = PairedWeb(2, [(0, 2), (1, 3), (0, 3), (1, 2)])
        expected = ((1, (0, 1)), (-1, (2, 3)), (1, (4, 5)))
        self.assertEqual(expected, pfaffian(paired, [0, 1, 2, 3]).products)
        self.assertEqual(expected, pairing_sum(paired, [0, 1, 2, 3]).products)

    def test_edges(self):
        for function in (pfaffian, pairing_sum, determinant):
            self.assertEqual(Sum.number(1), function(PAIRED, []))
            self.assertEqual(Sum.number(1), function(PairedWeb(0, []), ()))
            self.assertEqual(ZERO, function(PAIRED, [1]))
            self.assertEqual(ZERO, function(PAIRED, [0, 1, 2]))
            self.assertEqual(ZERO, function(PAIRED, (0, 2)))
        self.assertEqual(((1, (0, 1)), (1, (0, 3)), (1, (2, 6)), (1, (5, 6))), pfaffian(PAIRED, (0, 1, 2, 3)).products)

    def test_errors(self):
        for function in (pfaffian, pairing_sum, determinant):
            for wrong in (4, -1, 10 ** 20):
                self.assert_raises(UnknownPoint, {"point": wrong}, function, PAIRED, [wrong])
                self.assert_raises(UnknownPoint, {"point": wrong}, function, PAIRED, sorted([0, wrong]))
            self.assert_raises(UnknownPoint, {"point": 4}, function, PAIRED, [0, 3, 4, 5])
            self.assert_raises(UnknownPoint, {"point": -2}, function, PAIRED, [-2, -1, 0, 9])
        self.assert_raises(TooLarge, {"limit": 6}, determinant, PAIRED, [0, 1, 2, 3, 4, 5, 6])
        self.assert_raises(TooLarge, {"limit": 6}, determinant, PairedWeb(4, []), list(range(7)))
        self.assertEqual(Sum([(1, [0, 0, 1, 1, 2, 2])]), determinant(PairedWeb(4, []), list(range(6))))

    def test_against_the_words_of_the_document(self):
        rng = random.Random(57)
        for paired in small_paired(150, 57, most_pairs=4, most_free=9):
            points = sorted(rng.sample(range(paired.points), rng.randint(0, paired.points)))
            for chosen in (points, list(range(paired.points))):
                expected = pfaffian_by_words(paired, chosen)
                self.assertEqual(expected, pfaffian(paired, chosen))
                self.assertEqual(expected, pairing_sum(paired, chosen))
                self.assertEqual(len(all_pairings(chosen, paired.all_ties)), len(expected.products))

    def test_determinant_is_the_square_of_the_pfaffian(self):
        rng = random.Random(58)
        for paired in small_paired(80, 58, most_pairs=4, most_free=9):
            points = sorted(rng.sample(range(paired.points), rng.randint(0, min(6, paired.points))))
            square = pfaffian(paired, points) * pfaffian(paired, points)
            self.assertEqual(square, determinant(paired, points))
            if len(points) < 6:
                self.assertEqual(square, determinant_by_words(paired, points))

    def test_large_paired_webs_with_few_pairings(self):
        chain = PairedWeb(100, [(2 * pair + 1, 2 * pair + 2) for pair in range(99)])
        for function in (pfaffian, pairing_sum):
            self.assertEqual(((1, tuple(range(100))),), function(chain, list(range(200))).products)
            self.assertEqual(((1, tuple(range(100, 199))),), function(chain, list(range(1, 199))).products)

    def test_arguments_stay(self):
        points = [0, 1, 2, 3]
        for function in (pfaffian, pairing_sum, determinant):
            function(PAIRED, points)
        self.assertEqual([0, 1, 2, 3], points)


if __name__ == "__main__":
    unittest.main()
