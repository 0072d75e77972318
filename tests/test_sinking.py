"""Point 58: weights that sink the Pfaffian."""

import random
import unittest

from helpers import Cases, odd_ears, random_paired, small_paired

from comesapart.bridges import is_only_pairing
from comesapart.pairedwebs import PairedWeb
from comesapart.pfaffians import pfaffian
from comesapart.sinking import sinking_weights

PRIME = 2 ** 61 - 1


def is_singular(paired, weights):
    """Tell whether the skew table of the numbers, modulo a large prime, has a determinant of 0."""
    count = paired.points
    table = [[0] * count for _ in range(count)]
    for (one, other), weight in zip(paired.all_ties, weights):
        if one != other:
            table[min(one, other)][max(one, other)] += weight % PRIME
            table[max(one, other)][min(one, other)] -= weight % PRIME
    for column in range(count):
        rows = [row for row in range(column, count) if table[row][column] % PRIME]
        if not rows:
            return True
        table[column], table[rows[0]] = table[rows[0]], table[column]
        inverse = pow(table[column][column], -1, PRIME)
        for row in rows:
            factor = table[row][column] * inverse % PRIME
            if row > column and factor:
                table[row] = [(a - factor * b) % PRIME for a, b in zip(table[row], table[column])]
    return False


class SinkingTests(unittest.TestCase, Cases):
    def check(self, paired, weights):
        self.assertIs(list, weights.__class__)
        self.assertEqual(len(paired.all_ties), len(weights))
        self.assertNotIn(0, weights)

    def test_ordinary_paired_webs(self):
        square = PairedWeb(2, [(1, 2), (0, 3)])
        weights = sinking_weights(square)
        self.check(square, weights)
        self.assertEqual(0, weights[0] * weights[1] + weights[2] * weights[3])
        double = PairedWeb(1, [(1, 0), (0, 0)])
        weights = sinking_weights(double)
        self.check(double, weights)
        self.assertEqual(0, weights[0] + weights[1])

    def test_only_pairings(self):
        for paired in (PairedWeb(0, []), PairedWeb(3, []), PairedWeb(1, [(0, 0)]), PairedWeb(2, [(1, 2), (1, 2)])):
            self.assertIsNone(sinking_weights(paired))

    def test_the_pfaffian_is_zero(self):
        for paired in small_paired(300, 58, most_pairs=5, most_free=12):
            weights = sinking_weights(paired)
            self.assertEqual(is_only_pairing(paired), weights is None)
            if weights is not None:
                self.check(paired, weights)
                self.assertEqual(0, pfaffian(paired, list(range(paired.points))).value(weights))

    def test_light_ties_that_cancel_heavy_ones(self):
        # Weights of 1 and 2 make the part of the Pfaffian without, or with, the last tie 0.
        for paired in (PairedWeb(2, [(0, 2), (0, 2), (1, 3), (1, 3), (1, 2), (0, 3)]),
                       PairedWeb(3, [(1, 3), (1, 3), (2, 4), (2, 4), (1, 2), (3, 4), (0, 5)])):
            weights = sinking_weights(paired)
            self.check(paired, weights)
            self.assertEqual(0, pfaffian(paired, list(range(paired.points))).value(weights))

    def test_several_cycles_that_could_cancel(self):
        # All points of a complete graph: very many products, of which many are equal for equal weights.
        points = range(8)
        paired = PairedWeb(4, [(one, other) for other in points for one in range(other)])
        weights = sinking_weights(paired)
        self.check(paired, weights)
        self.assertEqual(0, pfaffian(paired, list(points)).value(weights))

    def test_large_paired_webs(self):
        rng = random.Random(59)
        for paired in (random_paired(rng, 60, 200), random_paired(rng, 100, 120), odd_ears(60, 59),
                       PairedWeb(100, [(2 * pair + 1, (2 * pair + 2) % 200) for pair in range(100)])):
            weights = sinking_weights(paired)
            self.check(paired, weights)
            self.assertTrue(is_singular(paired, weights))
            self.assertFalse(is_singular(paired, [10 ** 9] * paired.pairs + list(range(1, len(paired.free) + 1))))

    def test_new_list(self):
        self.assert_new_list(sinking_weights, PairedWeb(2, [(1, 2), (0, 3)]))


if __name__ == "__main__":
    unittest.main()
