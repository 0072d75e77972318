"""Points 83 to 85: short cycles, their signs, choices that part the roots, and results."""

import itertools
import random
import unittest

from helpers import Cases, random_wiring, small_wirings

from comesapart.cycles import cycle_places, is_turning_cycle
from comesapart.errors import NotATurningCycle, TooLarge
from comesapart.likeness import Likeness
from comesapart.parting import parting_choices, results, shortened, signs_of_cycle
from comesapart.search import cycle_by_dropping, turning_cycles
from comesapart.statuses import agree, roots_agree
from comesapart.wirings import Wiring
from comesapart.wiringwebs import is_sound, web_of_wiring

# The long cycle goes straight from the leaf 4 through the together 9, and meets the both 8 of its other part.
LONG = Wiring([(0, 5), (1, 2), (4, 6), (3, 7)], [("both", 0, 1), ("together", 8, 4), ("both", 9, 2), ("both", 5, 6)])


def nodes_of(wiring, term):
    """Return the nodes of a term as point 83 says."""
    if term < wiring.leaves:
        return []
    _, left, right = wiring.nodes[term - wiring.leaves]
    return [term - wiring.leaves] + nodes_of(wiring, left) + nodes_of(wiring, right)


def is_short(wiring, steps):
    walked = [tie for tie, _ in steps]
    met = [place - len(wiring.links) for place in cycle_places(web_of_wiring(wiring), steps)]
    for node, (_, left, right) in enumerate(wiring.nodes):
        parent = wiring.parent(wiring.leaves + node)
        if parent is None or 2 * parent + wiring.nodes[parent].index(wiring.leaves + node, 1) - 1 not in walked:
            continue
        for which, other in ((0, right), (1, left)):
            if 2 * node + which in walked and any(under in met for under in nodes_of(wiring, other)):
                return False
    return True


def count_links(wiring, steps):
    return len([place for place in cycle_places(web_of_wiring(wiring), steps) if place < len(wiring.links)])


class ShortenedTests(unittest.TestCase, Cases):
    def check(self, wiring, steps):
        found = shortened(wiring, steps)
        self.assertIs(list, found.__class__)
        self.assertTrue(is_turning_cycle(web_of_wiring(wiring), found))
        self.assertTrue(is_short(wiring, found))
        self.assertLessEqual(count_links(wiring, found), count_links(wiring, steps))
        signs = signs_of_cycle(wiring, found)
        self.assertFalse(roots_agree(wiring, signs))
        self.assertEqual(count_links(wiring, found), len([sign for sign in signs if sign]))
        return found

    def test_a_cycle_that_is_not_short(self):
        web = web_of_wiring(LONG)
        long_cycles = [steps for steps in turning_cycles(web) if not is_short(LONG, steps)]
        self.assertEqual(1, len(long_cycles))
        self.assertEqual(3, count_links(LONG, long_cycles[0]))
        found = self.check(LONG, long_cycles[0])
        self.assertEqual(1, count_links(LONG, found))
        self.check(LONG, tuple(found))

    def test_all_cycles_of_small_wirings(self):
        count = 0
        for wiring in small_wirings(400, 83, most_links=6, most_nodes=11):
            for steps in turning_cycles(web_of_wiring(wiring)):
                count += not is_short(wiring, steps)
                self.check(wiring, steps)
                self.check(wiring, [(tie, 1 - direction) for tie, direction in steps[::-1]])
        self.assertGreater(count, 60)

    def test_40_links(self):
        found = 0
        for seed in range(30):
            wiring = random_wiring(random.Random(seed), 40, 79)
            steps = cycle_by_dropping(web_of_wiring(wiring))
            if steps is not None:
                found += 1
                self.check(wiring, steps)
        self.assertGreater(found, 20)

    def test_lists_that_are_no_turning_cycles(self):
        cycle = turning_cycles(web_of_wiring(LONG))[0]
        for steps in ([], cycle[:-1], cycle + cycle, cycle[::-1], [(0, 0), (0, 1)], [(99, 0)], [(0, 2)], [(-1, 0)],
                      cycle + [(99, 0)]):
            self.assert_raises(NotATurningCycle, {}, shortened, LONG, steps)
            self.assert_raises(NotATurningCycle, {}, signs_of_cycle, LONG, steps)
        # This cycle has a cusp at the together.
        together = Wiring([(0, 1)], [("together", 0, 1)])
        for function in (shortened, signs_of_cycle):
            self.assert_raises(NotATurningCycle, {}, function, together, [(0, 0), (1, 1)])

    def test_new_lists(self):
        steps = turning_cycles(web_of_wiring(LONG))[0]
        self.assert_new_list(shortened, LONG, steps)
        self.assert_new_list(signs_of_cycle, LONG, steps)


class SignsTests(unittest.TestCase):
    def test_signs(self):
        # Tie 0 leaves the link by its first leaf, tie 1 by its second one.
        flat = Wiring([(2, 3), (1, 0)], [("both", 1, 0)])
        self.assertEqual([0, 1], signs_of_cycle(flat, [(0, 0), (1, 1)]))
        self.assertEqual([0, -1], signs_of_cycle(flat, [(1, 0), (0, 1)]))
        self.assertEqual([0, -1], signs_of_cycle(flat, ((0, 1), (1, 0))))
        twin = Wiring([(0, 1), (3, 2)], [("both", 0, 2), ("both", 1, 3)])
        self.assertEqual([1, 1], signs_of_cycle(twin, [(0, 0), (1, 1), (3, 0), (2, 1)]))

    def test_against_the_words_of_the_document(self):
        for wiring in small_wirings(100, 84):
            web = web_of_wiring(wiring)
            for steps in turning_cycles(web):
                expected = [0] * len(wiring.links)
                for step in steps:
                    place, side = web.tail(step)
                    if place < len(wiring.links):
                        expected[place] = (1, -1)[side]
                self.assertEqual(expected, signs_of_cycle(wiring, steps))


class ChoicesTests(unittest.TestCase, Cases):
    def test_choices_that_do_not_agree(self):
        sound = 0
        wirings = small_wirings(300, 85, most_links=6, most_nodes=11)
        for wiring in wirings + [random_wiring(random.Random(seed), 40, 79) for seed in range(10)]:
            found = parting_choices(wiring)
            sound += found is None
            self.assertIs(is_sound(wiring), found is None)
            if found is not None:
                self.assertIs(tuple, found.__class__)
                choice, other = found
                self.assertEqual([0] * len(wiring.links), choice)
                self.assertTrue(all(0 <= point < 3 for point in other) and len(other) == len(wiring.links))
                self.assertFalse(agree(wiring, Likeness.three(), choice, other))
        self.assertTrue(50 < sound < 250)

    def test_a_slow_search_finds_the_same(self):
        for wiring in small_wirings(60, 86, most_links=3):
            points = itertools.product(range(3), repeat=len(wiring.links))
            parted = [other for other in points if not agree(wiring, Likeness.three(), [0] * len(wiring.links), other)]
            self.assertIs(parted == [], parting_choices(wiring) is None)

    def test_each_list_is_new(self):
        flat = Wiring([(0, 1)], [("both", 0, 1)])
        kept = parting_choices(flat)
        for points in parting_choices(flat):
            points.append("changed")
        self.assertEqual(kept, parting_choices(flat))
        self.assertIn(kept, (([0], [1]), ([0], [2])))


class ResultsTests(unittest.TestCase, Cases):
    def test_ascending(self):
        self.assertEqual([[0, 0], [1, 1]], results(Wiring([(1, 0)], []), 2))
        self.assertEqual([[0, 0, 0, 0], [0, 1, 1, 0], [1, 0, 0, 1], [1, 1, 1, 1]],
                         results(Wiring([(2, 1), (0, 3)], [("both", 0, 1)]), 2))
        self.assertEqual([[0] * 8], results(Wiring([(0, 1), (2, 3), (4, 5), (6, 7)], []), 1))

    def test_against_a_slow_search(self):
        for wiring in small_wirings(40, 87, most_links=3):
            for size in (1, 2, 3):
                expected = [list(points) for points in itertools.product(range(size), repeat=wiring.leaves)
                            if all(points[one] == points[other] for one, other in wiring.links)]
                self.assertEqual(expected, results(wiring, size))

    def test_limits(self):
        links = [(9, 0), (8, 1), (7, 2), (6, 3), (5, 4)]
        found = results(Wiring([(7, 0), (6, 1), (5, 2), (4, 3)], []), 8)
        self.assertEqual(4096, len(found))
        self.assertEqual(sorted(found), found)
        self.assertEqual([0, 0, 0, 1, 1, 0, 0, 0], found[1])
        for size in (1, 8):
            self.assert_raises(TooLarge, {"limit": 4}, results, Wiring(links, []), size)

    def test_new_lists(self):
        self.assert_new_list(results, Wiring([(2, 1), (0, 3)], []), 2)


if __name__ == "__main__":
    unittest.main()
