"""Point 9: the groups of a graph."""

import random
import unittest

from helpers import Cases

from comesapart.groups import grouped


def slow_groups(points, ties):
    """Merge groups until nothing changes."""
    groups = [{point} for point in points]
    for one, other in ties:
        if one in points and other in points:
            joined = [group for group in groups if one in group or other in group]
            groups = [group for group in groups if group not in joined] + [set().union(*joined)]
    return sorted(sorted(group) for group in groups)


class GroupTests(unittest.TestCase, Cases):
    def test_example_of_the_document(self):
        self.assertEqual([[0, 7], [2], [4]], grouped([4, 0, 2, 7], [(7, 0), (2, 3), (0, 0)]))

    def test_without_points_or_ties(self):
        self.assertEqual([], grouped([], []))
        self.assertEqual([], grouped([], [(0, 1)]))
        self.assertEqual([[-2], [5]], grouped([5, -2], []))

    def test_a_foreign_point_does_not_connect(self):
        self.assertEqual([[0], [1]], grouped([0, 1], [(0, 9), (9, 1)]))
        self.assertEqual([[0], [1]], grouped([1, 0], [(0, 9), (1, 9), (9, 9)]))

    def test_points_of_any_size_and_order(self):
        big = 10 ** 40
        self.assertEqual([[-big, big], [3]], grouped([big, 3, -big], [(big, -big), (big, -big)]))

    def test_long_chain(self):
        points = list(range(3000))
        self.assertEqual([points], grouped(points[::-1], [(k, k + 1) for k in range(2999)]))

    def test_tuples_may_be_passed(self):
        self.assertEqual([[1, 2], [3]], grouped((3, 2, 1), ((1, 2),)))

    def test_lists_are_new_and_arguments_stay(self):
        self.assert_new_list(grouped, [3, 1, 2], [(1, 2), (2, 1)])

    def test_against_merging(self):
        rng = random.Random(9)
        for _ in range(200):
            points = rng.sample(range(12), rng.randint(0, 8))
            ties = [(rng.randrange(12), rng.randrange(12)) for _ in range(rng.randint(0, 8))]
            self.assertEqual(slow_groups(points, ties), grouped(points, ties))


if __name__ == "__main__":
    unittest.main()
