"""Point 62: the web of a wiring, sound and whole wirings."""

import unittest

from helpers import Cases, all_turning_cycles, small_wirings, sound_wiring

from comesapart.errors import UnknownTerm
from comesapart.openings import knot
from comesapart.wirings import Wiring
from comesapart.wiringwebs import is_sound, is_whole, place_of, web_of_wiring

EXAMPLE = Wiring([(0, 2), (3, 1)], [("together", 0, 1), ("both", 2, 3)])
# A both of a together and a leaf, and a link that stands alone.
HIGH = Wiring([(4, 0), (1, 2), (3, 5)], [("together", 2, 0), ("both", 6, 5)])


class WebTests(unittest.TestCase, Cases):
    def test_example_of_the_document(self):
        self.assertEqual(((0, 0, 2, 0), (1, 1, 2, 0), (0, 1, 3, 0), (1, 0, 3, 1)), web_of_wiring(EXAMPLE).ties)
        self.assertEqual((2, 2, 2, 3), web_of_wiring(EXAMPLE).sides)

    def test_parts_that_are_nodes(self):
        web = web_of_wiring(HIGH)
        self.assertEqual((2, 2, 2, 2, 3), web.sides)
        self.assertEqual(((1, 1, 3, 0), (0, 1, 3, 0), (3, 1, 4, 0), (2, 1, 4, 1)), web.ties)
        boths = web_of_wiring(Wiring([(0, 1), (2, 3)], [("both", 1, 2), ("both", 4, 0), ("together", 3, 5)]))
        self.assertEqual(((0, 1, 2, 0), (1, 0, 2, 1), (2, 2, 3, 0), (0, 0, 3, 1), (1, 1, 4, 0), (3, 2, 4, 0)),
                         boths.ties)

    def test_a_wiring_without_nodes(self):
        web = web_of_wiring(Wiring([(1, 0)], []))
        self.assertEqual(((2,), ()), (web.sides, web.ties))

    def test_place_of(self):
        self.assertEqual([(0, 0), (1, 1), (0, 1), (1, 0), (2, 1), (3, 2)],
                         [place_of(EXAMPLE, term) for term in range(6)])
        self.assertEqual([(0, 1), (1, 0), (1, 1), (2, 0), (0, 0), (2, 1), (3, 1), (4, 2)],
                         [place_of(HIGH, term) for term in range(8)])

    def test_errors(self):
        for term in (6, -1, 10 ** 20):
            self.assert_raises(UnknownTerm, {"term": term}, place_of, EXAMPLE, term)

    def test_ties_join_parts_with_nodes(self):
        for wiring in small_wirings(100, 62):
            web = web_of_wiring(wiring)
            for node, (kind, left, right) in enumerate(wiring.nodes):
                place = place_of(wiring, wiring.leaves + node)[0]
                self.assertEqual(place_of(wiring, left) + (place, 0), web.ties[2 * node])
                self.assertEqual(place_of(wiring, right) + (place, 1 if kind == "both" else 0), web.ties[2 * node + 1])
            for root in wiring.roots:
                place, side = place_of(wiring, root)
                self.assertNotIn(side, web.used_sides(place))


class SoundTests(unittest.TestCase):
    def test_sound_and_whole(self):
        # The leaves 0 and 1 are linked: their together is whole, their both is not sound.
        for wiring, sound, whole in (
                (Wiring([(0, 1)], []), True, True), (Wiring([(0, 1)], [("together", 0, 1)]), True, True),
                (Wiring([(0, 1)], [("both", 0, 1)]), False, False), (Wiring([(0, 1), (2, 3)], []), True, False),
                (Wiring([(0, 1), (2, 3)], [("both", 0, 2)]), True, True),
                (Wiring([(0, 1), (2, 3)], [("together", 0, 2)]), True, False),
                (Wiring([(0, 1), (2, 3)], [("both", 0, 2), ("both", 1, 3)]), False, False),
                (Wiring([(0, 1), (2, 3)], [("both", 0, 2), ("together", 1, 3), ("together", 4, 5)]), True, True),
                (EXAMPLE, True, True), (HIGH, True, False)):
            self.assertEqual((sound, whole), (is_sound(wiring), is_whole(wiring)))

    def test_sound_is_without_a_turning_cycle(self):
        count = 0
        for wiring in small_wirings(300, 63):
            web = web_of_wiring(wiring)
            sound = all_turning_cycles(web) == []
            count += sound
            self.assertIs(sound, is_sound(wiring))
            self.assertIs(knot(web) == [], is_sound(wiring))
            self.assertIs(sound and len(wiring.links) == wiring.boths + 1, is_whole(wiring))
        self.assertTrue(50 < count < 250)

    def test_wirings_of_40_links(self):
        for seed in range(5):
            for boths in (0, 30, 39):
                wiring = sound_wiring(seed, 40, boths)
                self.assertEqual((True, boths == 39), (is_sound(wiring), is_whole(wiring)))
        ring = Wiring([(2 * link, 2 * link + 1) for link in range(40)],
                      [("both", 2 * link + 1, (2 * link + 2) % 80) for link in range(40)])
        self.assertEqual((False, False), (is_sound(ring), is_whole(ring)))


if __name__ == "__main__":
    unittest.main()
