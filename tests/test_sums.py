"""Points 54 and 55: sums of products of weights."""

import random
import unittest

from helpers import Cases

from comesapart.sums import Sum

A = Sum([(2, [1, 0]), (-3, [4])])
B = Sum([(3, [4]), (1, []), (5, [0, 0])])


def random_sum(rng):
    return Sum([(rng.randint(-3, 3), [rng.randint(0, 3) for _ in range(rng.randint(0, 3))])
                for _ in range(rng.randint(0, 4))])


class SumTests(unittest.TestCase, Cases):
    def test_products_are_ordered(self):
        self.assertEqual(((2, (0, 1)), (-3, (4,))), A.products)
        self.assertEqual(((7, ()), (1, (0,)), (4, (0, 0, 2)), (-1, (0, 1)), (2, (10,))),
                         Sum([(2, [10]), (4, [2, 0, 0]), (7, []), (-1, (1, 0)), (1, [0])]).products)
        self.assertEqual(((1, (3, 3, 3)),), Sum(((1, (3, 3, 3)),)).products)

    def test_equal_weights_are_added_up(self):
        self.assertEqual(((5, (0, 1)),), Sum([(2, [0, 1]), (3, [1, 0])]).products)
        self.assertEqual(((2, (0,)), (3, (0, 0))), Sum([(2, [0]), (3, [0, 0])]).products)
        self.assertEqual(((1, (2,)),), Sum([(2, [0, 1]), (1, [2]), (-3, [1, 0]), (1, [0, 1])]).products)
        self.assertEqual((), Sum([(0, [7]), (4, []), (-4, [])]).products)

    def test_the_zero_sum(self):
        for zero in (Sum([]), Sum(()), Sum([(0, [])]), Sum.number(0), A - A, A * 0, 0 * A, A * Sum([])):
            self.assertEqual((), zero.products)
            self.assertIs(False, bool(zero))
            self.assertEqual(Sum([]), zero)
            self.assertEqual(0, zero.value([]))
        for other in (A, Sum.number(-1), Sum([(1, [])])):
            self.assertIs(True, bool(other))
            self.assertNotEqual(Sum([]), other)

    def test_numbers_and_weights(self):
        self.assertEqual(((7, ()),), Sum.number(7).products)
        self.assertEqual(((1, (7,)),), Sum.weight(7).products)

    def test_signs(self):
        self.assertEqual(Sum([(2, [0, 1]), (1, []), (5, [0, 0])]), A + B)
        self.assertEqual(Sum([(2, [0, 1]), (-6, [4]), (-1, []), (-5, [0, 0])]), A - B)
        self.assertEqual(((-2, (0, 1)), (3, (4,))), (-A).products)
        self.assertEqual(((10, (0, 0, 0, 1)), (-15, (0, 0, 4)), (2, (0, 1)), (6, (0, 1, 4)), (-3, (4,)), (-9, (4, 4))),
                         (A * B).products)
        self.assertEqual(A * B, B * A)

    def test_numbers_multiply_from_both_sides(self):
        self.assertEqual(((6, (0, 1)), (-9, (4,))), (3 * A).products)
        self.assertEqual(((-6, (0, 1)), (9, (4,))), (A * -3).products)
        self.assertEqual(A, A * 1)
        self.assertEqual(-A, -1 * A)

    def test_numbers_of_any_size(self):
        big = 10 ** 50
        self.assertEqual(((big * big, ()),), (big * Sum.number(big)).products)
        self.assertEqual(big ** 2 + 1, (Sum.weight(big) * big + Sum.number(1)).value({big: big}))

    def test_rules_of_reckoning(self):
        rng = random.Random(54)
        for _ in range(200):
            a, b, c = random_sum(rng), random_sum(rng), random_sum(rng)
            numbers = [rng.randint(-3, 3) for _ in range(4)]
            self.assertEqual(a * (b + c), a * b + a * c)
            self.assertEqual((a * b) * c, a * (b * c))
            self.assertEqual(a - b, a + -b)
            self.assertEqual(bool(a - b), a != b)
            self.assertEqual(a.value(numbers) + b.value(numbers), (a + b).value(numbers))
            self.assertEqual(a.value(numbers) - b.value(numbers), (a - b).value(numbers))
            self.assertEqual(a.value(numbers) * b.value(numbers), (a * b).value(numbers))
            for result in (a + b, a - b, a * b, 5 * a, -a):
                weights = [weights for _, weights in result.products]
                self.assertEqual(sorted(set(weights)), weights)
                self.assertTrue(all(coefficient != 0 for coefficient, _ in result.products))

    def test_equality(self):
        self.assertEqual(Sum([(1, [0, 1])]), Sum([(1, (1, 0))]))
        self.assertFalse(A == B)
        self.assertTrue(A != B)
        self.assert_only_equal_to_its_class(Sum.number(0), 0, False, ())
        self.assert_only_equal_to_its_class(Sum.number(1), 1, ((1, ()),), [(1, ())])

    def test_a_sum_never_changes(self):
        weights = [1, 0]
        products = [(2, weights)]
        total = Sum(products)
        weights.append(5)
        products.append((1, [7]))
        self.assertEqual(((2, (0, 1)),), total.products)
        kept = (A.products, B.products)
        for result in (A + B, A - B, A * B, 2 * A, A * 2, -A, A.put(0, 3), A.divided(4)):
            self.assertIsNotNone(result)
        self.assertEqual(kept, (A.products, B.products))


class PartsTests(unittest.TestCase, Cases):
    def test_value(self):
        self.assertEqual(2 * 5 * 7 - 3 * 11, A.value([5, 7, 99, 99, 11]))
        self.assertEqual(2 * 5 * 7 - 3 * 11, A.value((5, 7, 0, 0, 11)))
        self.assertEqual(-8, Sum([(1, [0, 0, 0])]).value([-2]))
        self.assertEqual(4, Sum.number(4).value([]))

    def test_used(self):
        self.assertEqual([0, 1, 4], A.used())
        self.assertEqual([], Sum.number(3).used())
        self.assertEqual([2, 9], Sum([(1, [9, 2, 2]), (1, [9])]).used())
        A.used().append("changed")
        self.assertEqual([0, 1, 4], A.used())

    def test_put(self):
        self.assertEqual(Sum([(6, [0]), (-3, [4])]), A.put(1, 3))
        self.assertEqual(Sum([(-3, [4])]), A.put(0, 0))
        self.assertEqual(A, A.put(7, 5))
        self.assertEqual(Sum([(8, [1]), (5, [])]), Sum([(1, [0, 1, 0, 0]), (5, [])]).put(0, 2))
        self.assertEqual(Sum([]), Sum([(1, [0]), (-2, [])]).put(0, 2))
        self.assertEqual(((7, (1,)),), Sum([(1, [0, 1]), (5, [1])]).put(0, 2).products)

    def test_divided(self):
        self.assertEqual((Sum([(2, [1])]), Sum([(-3, [4])])), A.divided(0))
        self.assertEqual((Sum([]), A), A.divided(7))
        self.assertEqual((Sum([(5, [0]), (2, [1])]), Sum.number(3)),
                         Sum([(5, [0, 0]), (2, [0, 1]), (3, [])]).divided(0))

    def test_parts_of_random_sums(self):
        rng = random.Random(55)
        for _ in range(200):
            total = random_sum(rng)
            for tie in range(5):
                factor, rest = total.divided(tie)
                self.assertEqual(total, Sum.weight(tie) * factor + rest)
                self.assertNotIn(tie, rest.used())
                numbers = [rng.randint(-3, 3) for _ in range(5)]
                self.assertEqual(total.value(numbers), total.put(tie, numbers[tie]).value(numbers))
                self.assertNotIn(tie, total.put(tie, 2).used())


if __name__ == "__main__":
    unittest.main()
