"""Point 61: pivots, kept or not, and pairs worked off with numbers."""

import random
import unittest
from fractions import Fraction
from math import gcd

from helpers import Cases, odd_ears, random_paired, small_paired

from comesapart.bridges import is_only_pairing
from comesapart.errors import UnknownPair
from comesapart.pairedwebs import PairedWeb
from comesapart.pfaffians import pfaffian
from comesapart.pivots import is_kept, pivot, touching_order, worked_off
from comesapart.sums import Sum

SQUARE = PairedWeb(3, [(1, 2), (0, 3), (4, 4), (3, 4)])


def points_of(pairs):
    return sorted([2 * pair for pair in pairs] + [2 * pair + 1 for pair in pairs])


def worked_off_by_words(paired, weights, order):
    """Replace all numbers of the table at once, as the document says."""
    count = paired.points
    table = [[Fraction(0)] * count for _ in range(count)]
    for (one, other), weight in zip(paired.all_ties, weights):
        if one != other:
            table[min(one, other)][max(one, other)] += weight
            table[max(one, other)][min(one, other)] -= weight
    found = []
    for pair in order:
        p, q = 2 * pair, 2 * pair + 1
        t = table[p][q]
        found.append((t.numerator, t.denominator))
        if t == 0:
            break
        table = [[table[i][j] + (table[q][i] * table[p][j] - table[p][i] * table[q][j]) / t for j in range(count)]
                 for i in range(count)]
    return found


class PivotTests(unittest.TestCase, Cases):
    def test_ordinary_pivots(self):
        self.assertEqual((Sum.weight(1), Sum.number(1)), pivot(SQUARE, [], 1))
        self.assertEqual((Sum([(1, [0, 1]), (1, [3, 4])]), Sum.weight(0)), pivot(SQUARE, [0], 1))
        self.assertEqual((Sum([(1, [0, 1]), (1, [3, 4])]), Sum.weight(1)), pivot(SQUARE, (1,), 0))
        self.assertEqual((Sum([(1, [0, 1, 2]), (1, [2, 3, 4])]), Sum([(1, [0, 1]), (1, [3, 4])])),
                         pivot(SQUARE, [1, 0], 2))
        self.assertEqual([True, False, True, True], [is_kept(SQUARE, [], 1), is_kept(SQUARE, [0], 1),
                                                     is_kept(SQUARE, [1, 0], 2), is_kept(SQUARE, (2,), 0)])

    def test_equal_ties_of_partners(self):
        double = PairedWeb(1, [(1, 0), (1, 1)])
        self.assertEqual((Sum([(1, [0]), (1, [1])]), Sum.number(1)), pivot(double, [], 0))
        self.assertIs(False, is_kept(double, [], 0))
        self.assertIs(True, is_kept(PairedWeb(1, [(1, 1)]), [], 0))

    def test_errors(self):
        for function in (pivot, is_kept):
            for wrong in (3, -1, 10 ** 20):
                self.assert_raises(UnknownPair, {"pair": wrong}, function, SQUARE, [0, wrong, 99], 77)
                self.assert_raises(UnknownPair, {"pair": wrong}, function, SQUARE, (wrong, 1), 1)
                self.assert_raises(UnknownPair, {"pair": wrong}, function, SQUARE, [0, 1], wrong)
                self.assert_raises(UnknownPair, {"pair": wrong}, function, SQUARE, [], wrong)
            self.assert_raises(UnknownPair, {"pair": 1}, function, SQUARE, [0, 1], 1)
            self.assert_raises(UnknownPair, {"pair": 0}, function, PairedWeb(0, []), [], 0)

    def test_against_the_words_of_the_document(self):
        rng = random.Random(61)
        kept = []
        for paired in small_paired(150, 61, most_pairs=5, most_free=9):
            before = rng.sample(range(paired.pairs), rng.randint(0, paired.pairs))
            for pair in range(paired.pairs):
                if pair not in before:
                    numerator, denominator = pivot(paired, before, pair)
                    self.assertEqual(pfaffian(paired, points_of(before + [pair])), numerator)
                    self.assertEqual(pfaffian(paired, points_of(before)), denominator)
                    kept.append(is_kept(paired, before, pair))
                    self.assertIs(numerator == Sum.weight(pair) * denominator, kept[-1])
        self.assertTrue(30 < kept.count(False) < len(kept) - 30)

    def test_large_paired_webs(self):
        ears = odd_ears(100, 62)
        self.assertIs(True, is_kept(ears, list(range(1, 100)), 0))
        chain = PairedWeb(100, [(2 * pair + 1, 2 * pair + 2) for pair in range(99)] + [(0, 199)])
        self.assertEqual([True, False], [is_kept(chain, list(range(98)), 99), is_kept(chain, list(range(99)), 99)])


class TouchingOrderTests(unittest.TestCase, Cases):
    def check(self, paired):
        order = touching_order(paired)
        if order is None:
            self.assertTrue(is_only_pairing(paired))
            return
        self.assertFalse(is_only_pairing(paired))
        self.assertEqual(len(set(order)), len(order))
        kept = [is_kept(paired, order[:index], pair) for index, pair in enumerate(order)]
        self.assertEqual([True] * (len(order) - 1) + [False], kept)

    def test_ordinary_paired_webs(self):
        self.check(SQUARE)
        self.assertIn(touching_order(PairedWeb(2, [(1, 2), (0, 3)])), ([0, 1], [1, 0]))
        self.assertEqual([0], touching_order(PairedWeb(1, [(1, 0)])))
        for paired in (PairedWeb(0, []), PairedWeb(2, [(1, 2), (1, 2)]), PairedWeb(1, [(1, 1)])):
            self.assertIsNone(touching_order(paired))

    def test_the_condition(self):
        for paired in small_paired(200, 62, most_pairs=6, most_free=9):
            self.check(paired)

    def test_large_paired_webs(self):
        rng = random.Random(63)
        for paired in (odd_ears(100, 63), random_paired(rng, 100, 200), random_paired(rng, 100, 40)):
            self.check(paired)

    def test_new_list(self):
        self.assert_new_list(touching_order, SQUARE)


class WorkedOffTests(unittest.TestCase, Cases):
    def test_example_of_the_document(self):
        self.assertEqual([(3, 1), (8, 3)], worked_off(PairedWeb(2, [(1, 2), (0, 3)]), [2, 3, 1, 2], [1, 0]))

    def test_edges(self):
        square = PairedWeb(2, [(1, 2), (0, 3)])
        self.assertEqual([], worked_off(square, [2, 3, 1, 2], []))
        self.assertEqual([], worked_off(PairedWeb(0, []), (), ()))
        self.assertEqual([(0, 1)], worked_off(square, [2, 0, 1, 2], [1, 0]))
        self.assertEqual([(2, 1), (0, 1)], worked_off(square, (2, 3, -2, 3), (0, 1)))
        self.assertEqual([(-2, 1), (5, 2)], worked_off(square, [-2, 3, -1, -1], [0, 1]))
        self.assertEqual([(5, 1)], worked_off(PairedWeb(1, [(0, 0), (1, 0)]), [2, 99, 3], [0]))

    def test_negative_numbers_and_lowest_terms(self):
        square = PairedWeb(2, [(1, 2), (0, 3)])
        self.assertEqual([(-6, 1), (-2, 3)], worked_off(square, [-6, -1, -2, 1], [0, 1]))
        self.assertEqual([(-4, 1), (1, 2)], worked_off(square, [-4, 1, 1, 2], [0, 1]))
        self.assertEqual([(-4, 1), (3, 1)], worked_off(square, [-4, 2, 2, -2], [0, 1]))

    def test_errors(self):
        weights = [1] * 7
        for wrong in (3, -1, 10 ** 20):
            self.assert_raises(UnknownPair, {"pair": wrong}, worked_off, SQUARE, weights, [0, wrong, 99])
            self.assert_raises(UnknownPair, {"pair": wrong}, worked_off, SQUARE, [0] * 7, (0, 1, wrong))

    def test_against_the_words_of_the_document(self):
        rng = random.Random(64)
        ended = 0
        for paired in small_paired(400, 64, most_pairs=5, most_free=10):
            weights = [rng.choice([-3, -2, -1, 0, 1, 2, 3, 4, 10 ** 12]) for _ in paired.all_ties]
            order = rng.sample(range(paired.pairs), rng.randint(0, paired.pairs))
            found = worked_off(paired, weights, order)
            self.assertEqual(worked_off_by_words(paired, weights, order), found)
            ended += found[-1:] == [(0, 1)]
            for numerator, denominator in found:
                self.assertTrue(denominator > 0 and gcd(numerator, denominator) == 1)
        self.assertGreater(ended, 30)

    def test_the_pivots_have_these_values(self):
        rng = random.Random(65)
        for paired in small_paired(100, 65, most_pairs=4, most_free=8):
            weights = [rng.randint(1, 9) for _ in paired.all_ties]
            order = rng.sample(range(paired.pairs), paired.pairs)
            for index, (above, below) in enumerate(worked_off(paired, weights, order)):
                numerator, denominator = pivot(paired, order[:index], order[index])
                self.assertEqual(Fraction(above, below), Fraction(numerator.value(weights), denominator.value(weights)))

    def test_large_paired_webs(self):
        rng = random.Random(66)
        paired = random_paired(rng, 100, 200)
        weights = [rng.randint(-10 ** 9, 10 ** 9) for _ in paired.all_ties]
        order = rng.sample(range(100), 100)
        found = worked_off(paired, weights, order)
        self.assertEqual(100, len(found))
        self.assertEqual(found[:30], worked_off(paired, weights, order[:30]))
        small = random_paired(rng, 15, 80)
        weights = [rng.randint(-9, 9) for _ in small.all_ties]
        order = rng.sample(range(15), 15)
        self.assertEqual(worked_off_by_words(small, weights, order), worked_off(small, weights, order))

    def test_new_list(self):
        self.assert_new_list(worked_off, PairedWeb(2, [(1, 2), (0, 3)]), [2, 3, 1, 2], [1, 0])


if __name__ == "__main__":
    unittest.main()
