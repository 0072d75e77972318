"""Point 79: likenesses."""

import itertools
import unittest

from helpers import Cases

from comesapart.errors import TooLarge, UnknownPoint
from comesapart.likeness import Likeness

FOUR = Likeness(4, [(2, 0), (1, 3)])


class LikenessTests(unittest.TestCase, Cases):
    def test_calls(self):
        self.assertEqual(["same", "unlike", "like", "unlike"], [FOUR(0, point) for point in range(4)])
        self.assertEqual(["like", "unlike", "same", "unlike"], [FOUR(2, point) for point in range(4)])
        self.assertEqual(("like", "like"), (FOUR(1, 3), FOUR(3, 1)))

    def test_fields(self):
        self.assertEqual(4, FOUR.size)
        self.assertEqual(((0, 2), (1, 3)), FOUR.like_pairs)
        self.assertEqual(((0, 1), (0, 5), (2, 3)), Likeness(6, [(5, 0), (3, 2), (1, 0)]).like_pairs)
        self.assertEqual((), Likeness(1, []).like_pairs)
        self.assertIs(tuple, FOUR.like_pairs.__class__)
        self.assertIs(tuple, FOUR.like_pairs[0].__class__)

    def test_tuples_that_occur_several_times(self):
        self.assertEqual(FOUR, Likeness(4, [(0, 2), (2, 0), (3, 1), (2, 0), (0, 2)]))
        self.assertEqual(FOUR, Likeness(4, ((0, 2), (1, 3))))

    def test_tuples_of_equal_points_have_no_effect(self):
        self.assertEqual(FOUR, Likeness(4, [(0, 0), (2, 0), (3, 3), (1, 3), (3, 3)]))
        self.assertEqual((), Likeness(2, [(1, 1)]).like_pairs)

    def test_three(self):
        three = Likeness.three()
        self.assertEqual((3, ((0, 1),)), (three.size, three.like_pairs))
        self.assertEqual(["like", "unlike", "unlike"], [three(0, 1), three(0, 2), three(1, 2)])

    def test_limits(self):
        self.assertEqual(8, Likeness.MOST_POINTS)
        self.assertEqual("unlike", Likeness(8, [])(7, 0))
        self.assert_raises(TooLarge, {"limit": 8}, Likeness, 9, [])
        self.assert_raises(TooLarge, {"limit": 8}, Likeness, 10 ** 20, [(-1, 0)])

    def test_points_that_are_unknown(self):
        for like, point in (([(0, 4)], 4), ([(4, 0)], 4), ([(-1, 9)], -1), ([(0, 1), (9, -1)], 9), ([(5, 5)], 5),
                            ([(0, 10 ** 20)], 10 ** 20), ([(1, 1), (2, -2), (7, 7)], -2)):
            self.assert_raises(UnknownPoint, {"point": point}, Likeness, 4, like)
        for one, other, point in ((4, 9, 4), (0, 4, 4), (-1, 0, -1), (3, -1, -1), (7, 7, 7), (0, 10 ** 20, 10 ** 20)):
            self.assert_raises(UnknownPoint, {"point": point}, FOUR, one, other)

    def test_later_changes_to_the_argument_have_no_effect(self):
        like = [(2, 0), (1, 3)]
        made = Likeness(4, like)
        like.append((0, 1))
        self.assertEqual(FOUR, made)
        self.assertEqual([(2, 0), (1, 3), (0, 1)], like)

    def test_exchange_of_like_and_unlike(self):
        self.assertEqual(((0, 1), (0, 3), (1, 2), (2, 3)), (~FOUR).like_pairs)
        self.assertEqual(((0, 2), (1, 3)), FOUR.like_pairs)
        self.assertEqual(Likeness(3, [(0, 2), (1, 2)]), ~Likeness.three())
        for size in range(1, 5):
            pairs = list(itertools.combinations(range(size), 2))
            for count in range(len(pairs) + 1):
                for like in itertools.combinations(pairs, count):
                    made = Likeness(size, like)
                    self.assertEqual(made, ~~made)
                    self.assertEqual(size, (~made).size)
                    for one, other in itertools.product(range(size), repeat=2):
                        words = {"like": "unlike", "unlike": "like", "same": "same"}
                        self.assertEqual(words[made(one, other)], (~made)(one, other))

    def test_equality(self):
        self.assertTrue(FOUR == Likeness(4, [(0, 2), (3, 1)]))
        self.assertTrue(FOUR != Likeness(5, [(0, 2), (3, 1)]))
        self.assertFalse(FOUR == Likeness(4, [(0, 2)]))
        self.assertTrue(Likeness(1, []) != Likeness(2, []))

    def test_a_likeness_equals_no_other_value(self):
        self.assert_only_equal_to_its_class(FOUR, (4, FOUR.like_pairs), FOUR.like_pairs, 4)


if __name__ == "__main__":
    unittest.main()
