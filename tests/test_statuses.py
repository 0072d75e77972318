"""Points 80 to 82: signs, statuses, roots that agree, and choices."""

import itertools
import unittest

from helpers import Cases, small_wirings, sound_wiring

from comesapart.errors import TooLarge
from comesapart.likeness import Likeness
from comesapart.statuses import BadChoice, BadSigns, agree, parting_signs, roots_agree, signs_of, statuses
from comesapart.wirings import Wiring
from comesapart.wiringwebs import is_sound

EXAMPLE = Wiring([(1, 0), (2, 3)], [("both", 0, 2), ("together", 4, 1)])
THREE = Likeness.three()


def statuses_by_words(wiring, signs):
    found = {}
    for sign, (first, second) in zip(signs, wiring.links):
        found[first], found[second] = {1: ("like", "unlike"), -1: ("unlike", "like"), 0: ("same", "same")}[sign]
    for node, (kind, left, right) in enumerate(wiring.nodes):
        parts = {found[left], found[right]}
        words = ["unlike", "like"] if kind == "both" else ["like", "unlike"]
        found[wiring.leaves + node] = next((word for word in words if word in parts), "same")
    return [found[term] for term in range(wiring.terms)]


class StatusesTests(unittest.TestCase, Cases):
    def test_example_of_the_document(self):
        self.assertEqual(["unlike", "like", "same", "same", "unlike", "like"], statuses(EXAMPLE, [1, 0]))

    def test_leaves(self):
        wiring = Wiring([(3, 0), (1, 2)], [])
        self.assertEqual(["unlike", "unlike", "like", "like"], statuses(wiring, [1, -1]))
        self.assertEqual(["like", "like", "unlike", "unlike"], statuses(wiring, (-1, 1)))
        self.assertEqual(["same"] * 4, statuses(wiring, [0, 0]))

    def test_nodes(self):
        # The leaves 0, 2, 4 are like, same and unlike; the nodes join them two by two, in both orders.
        links = [(0, 1), (2, 3), (5, 4)]
        for pair, both, together in (((0, 2), "like", "like"), ((0, 4), "unlike", "like"), ((2, 4), "unlike", "unlike"),
                                     ((2, 3), "same", "same"), ((0, 5), "like", "like"), ((1, 4), "unlike", "unlike")):
            for left, right in (pair, pair[::-1]):
                for kind, expected in (("both", both), ("together", together)):
                    self.assertEqual(expected, statuses(Wiring(links, [(kind, left, right)]), [1, 0, 1])[6])

    def test_all_signs_against_the_words_of_the_document(self):
        for wiring in small_wirings(80, 80, most_links=4, most_nodes=7):
            for signs in itertools.product((-1, 0, 1), repeat=len(wiring.links)):
                expected = statuses_by_words(wiring, signs)
                self.assertEqual(expected, statuses(wiring, list(signs)))
                agreeing = set(signs) == {0} or "like" in [expected[root] for root in wiring.roots]
                self.assertIs(agreeing, roots_agree(wiring, signs))

    def test_roots_agree(self):
        self.assertTrue(roots_agree(EXAMPLE, [0, 0]))
        self.assertTrue(roots_agree(EXAMPLE, [1, 0]))
        self.assertFalse(roots_agree(Wiring([(0, 1)], [("both", 0, 1)]), [1]))
        self.assertTrue(roots_agree(Wiring([(0, 1)], [("both", 0, 1)]), [0]))

    def test_bad_signs(self):
        for signs in ([], [1], [1, 0, 0], [1, 2], [-2, 0], [0, 10 ** 20], (1, 0, 1, 0), [3, 3]):
            for function in (statuses, roots_agree):
                self.assert_raises(BadSigns, {}, function, EXAMPLE, signs)

    def test_new_lists(self):
        self.assert_new_list(statuses, EXAMPLE, [1, 0])


class PartingSignsTests(unittest.TestCase, Cases):
    def test_ascending(self):
        flat = Wiring([(0, 1), (2, 3)], [("both", 0, 1)])
        expected = [signs for signs in ([a, b] for a in (-1, 0, 1) for b in (-1, 0, 1))
                    if signs[0] != 0 and signs[1] == 0]
        self.assertEqual(expected, parting_signs(flat))
        self.assertEqual([[-1, -1], [1, 1]],
                         parting_signs(Wiring([(0, 1), (3, 2)], [("both", 0, 2), ("both", 1, 3)])))
        self.assert_new_list(parting_signs, flat)

    def test_none_exactly_for_sound_wirings(self):
        sound = 0
        for wiring in small_wirings(200, 82, most_nodes=9):
            sound += is_sound(wiring)
            self.assertIs(is_sound(wiring), parting_signs(wiring) == [])
        self.assertTrue(40 < sound < 160)

    def test_against_all_signs(self):
        for wiring in small_wirings(60, 83, most_links=4):
            expected = [list(signs) for signs in itertools.product((-1, 0, 1), repeat=len(wiring.links))
                        if not roots_agree(wiring, signs)]
            self.assertEqual(expected, parting_signs(wiring))

    def test_limit(self):
        links = [(2 * link, 2 * link + 1) for link in range(7)]
        self.assertEqual([], parting_signs(Wiring(links[:6], [])))
        self.assertEqual([[0] * 5 + [-1], [0] * 5 + [1]], parting_signs(Wiring(links[:6], [("both", 10, 11)] + [
            ("together", 2 * link, 2 * link + 1) for link in range(5)])))
        self.assert_raises(TooLarge, {"limit": 6}, parting_signs, Wiring(links, []))
        self.assert_raises(TooLarge, {"limit": 6}, parting_signs, Wiring(links, [("both", 0, 1)]))


class ChoicesTests(unittest.TestCase, Cases):
    def test_signs_of(self):
        wiring = Wiring([(0, 1), (2, 3), (4, 5), (6, 7)], [])
        self.assertEqual([0, 1, -1, 1], signs_of(wiring, THREE, [0, 0, 1, 1], [0, 1, 2, 0]))
        self.assertEqual([0, -1, 1, -1], signs_of(wiring, ~THREE, (0, 0, 1, 1), (0, 1, 2, 0)))
        self.assert_new_list(signs_of, wiring, THREE, [0, 0, 1, 1], [0, 1, 2, 0])

    def test_agree(self):
        self.assertTrue(agree(EXAMPLE, THREE, [2, 1], [2, 1]))
        flat = Wiring([(0, 1)], [("both", 0, 1)])
        self.assertEqual([True, False, False], [agree(flat, THREE, [0], [point]) for point in range(3)])

    def test_agree_follows_the_signs(self):
        for wiring in small_wirings(40, 81, most_links=3):
            for choice in itertools.product(range(3), repeat=len(wiring.links)):
                for other in itertools.product(range(3), repeat=len(wiring.links)):
                    signs = [{"like": 1, "unlike": -1, "same": 0}[THREE(one, far)] for one, far in zip(choice, other)]
                    self.assertEqual(signs, signs_of(wiring, THREE, choice, other))
                    self.assertIs(roots_agree(wiring, signs), agree(wiring, THREE, choice, other))

    def test_any_choices_agree_in_a_sound_wiring_and_three_points_show_it_otherwise(self):
        likenesses = [Likeness(2, []), Likeness(2, [(0, 1)]), THREE, ~THREE, Likeness(4, [(0, 1), (1, 2), (2, 3)])]
        for wiring in small_wirings(60, 84, most_links=3) + [sound_wiring(seed, 3, 2) for seed in range(10)]:
            answers = [agree(wiring, likeness, choice, other) for likeness in likenesses
                       for choice in itertools.product(range(likeness.size), repeat=len(wiring.links))
                       for other in itertools.product(range(likeness.size), repeat=len(wiring.links))]
            self.assertIs(is_sound(wiring), all(answers))
            zeros = [0] * len(wiring.links)
            self.assertIs(is_sound(wiring), all(agree(wiring, THREE, zeros, other) for other in itertools.product(
                range(3), repeat=len(wiring.links))))

    def test_bad_choices(self):
        for choice in ([], [0], [0, 0, 0], [0, 3], [-1, 0], [10 ** 20, 1]):
            for function in (signs_of, agree):
                self.assert_raises(BadChoice, {}, function, EXAMPLE, THREE, choice, [0, 1])
                self.assert_raises(BadChoice, {}, function, EXAMPLE, THREE, [2, 0], choice)
        self.assert_raises(BadChoice, {}, signs_of, EXAMPLE, Likeness(1, []), [0, 0], [0, 1])


if __name__ == "__main__":
    unittest.main()
