"""Point 10: paired webs."""

import unittest

from helpers import Cases

from comesapart.errors import TooLarge, UnknownPoint
from comesapart.pairedwebs import PairedWeb

PAIRED = PairedWeb(3, [(1, 2), (2, 2), (3, 2), (1, 2)])


class PairedWebTests(unittest.TestCase, Cases):
    def test_fields_and_properties(self):
        self.assertEqual(3, PAIRED.pairs)
        self.assertEqual(((1, 2), (2, 2), (3, 2), (1, 2)), PAIRED.free)
        self.assertEqual(6, PAIRED.points)
        self.assertEqual(((0, 1), (2, 3), (4, 5), (1, 2), (2, 2), (3, 2), (1, 2)), PAIRED.all_ties)
        for value in (PAIRED.free, PAIRED.free[0], PAIRED.all_ties, PAIRED.all_ties[0]):
            self.assertIs(tuple, value.__class__)

    def test_class_values(self):
        self.assertEqual((100, 200), (PairedWeb.MOST_PAIRS, PairedWeb.MOST_FREE))

    def test_without_pairs(self):
        empty = PairedWeb(0, [])
        self.assertEqual((0, (), 0, ()), (empty.pairs, empty.free, empty.points, empty.all_ties))
        self.assertFalse(0 in empty)
        self.assert_raises(UnknownPoint, {"point": 0}, PairedWeb, 0, [(0, 0)])

    def test_limits(self):
        self.assertEqual(200, PairedWeb(100, []).points)
        self.assertEqual(200, len(PairedWeb(1, [(0, 1)] * 200).free))
        self.assert_raises(TooLarge, {"limit": 100}, PairedWeb, 101, [])
        self.assert_raises(TooLarge, {"limit": 200}, PairedWeb, 1, [(0, 1)] * 201)

    def test_order_of_the_errors(self):
        self.assert_raises(TooLarge, {"limit": 100}, PairedWeb, 101, [(999, 0)] * 201)
        self.assert_raises(TooLarge, {"limit": 200}, PairedWeb, 100, [(999, 0)] * 201)

    def test_unknown_points(self):
        for point in (6, -1, 10 ** 20):
            self.assert_raises(UnknownPoint, {"point": point}, PairedWeb, 3, [(0, 5), (point, 99)])
            self.assert_raises(UnknownPoint, {"point": point}, PairedWeb, 3, [(0, 5), (0, point), (99, 0)])

    def test_contains(self):
        self.assertEqual([True, True, False, False, False],
                         [point in PAIRED for point in (0, 5, 6, -1, 10 ** 20)])

    def test_partner(self):
        self.assertEqual([1, 0, 3, 2, 199, 198], [PairedWeb.partner(point) for point in (0, 1, 2, 3, 198, 199)])
        self.assertEqual(4, PAIRED.partner(5))

    def test_equality(self):
        self.assertTrue(PAIRED == PairedWeb(3, ((1, 2), (2, 2), (3, 2), (1, 2))))
        self.assertFalse(PairedWeb(3, []) == PairedWeb(2, []))
        self.assertFalse(PairedWeb(2, [(0, 1)]) == PairedWeb(2, [(1, 0)]))
        self.assertTrue(PairedWeb(2, [(0, 1), (1, 2)]) != PairedWeb(2, [(1, 2), (0, 1)]))

    def test_a_paired_web_equals_no_other_value(self):
        self.assert_only_equal_to_its_class(PAIRED, PAIRED.free, (PAIRED.pairs, PAIRED.free))

    def test_later_changes_to_the_arguments_have_no_effect(self):
        free = [(0, 1)]
        paired = PairedWeb(2, free)
        free.append((2, 3))
        self.assertEqual(((0, 1),), paired.free)
        self.assertEqual(((0, 1), (2, 3), (0, 1)), paired.all_ties)


if __name__ == "__main__":
    unittest.main()
