"""Points 64 to 66: derivations and the opening orders that they give."""

import random
import unittest

from helpers import Cases, small_wirings, sound_wiring

from comesapart.derivations import fault_in_derivation, find_derivation, opening_of
from comesapart.openings import fault_in_order
from comesapart.settings import ring_under, settings
from comesapart.wirings import Wiring
from comesapart.wiringwebs import is_sound, web_of_wiring

# Together 0 of two leaves of both 1, and a third link that stands alone.
WIRING = Wiring([(0, 2), (3, 1), (4, 5)], [("both", 2, 3), ("together", 0, 1)])
STEPS = [("link", 0), ("link", 1), ("both", 0), ("together", 1), ("link", 2), ("beside", 1, 2)]


def fault_by_words(wiring, steps):
    """Keep the pieces as sets of links and nodes, as the document says."""
    pieces = []

    def piece_of(part):
        name = ("node", part - wiring.leaves) if part >= wiring.leaves else ("link", wiring.link_of(part))
        return next((piece for piece in pieces if name in piece), None)

    for index, (word, *numbers) in enumerate(steps):
        gone, made = [], None
        known = all(0 <= number < len(wiring.links if word in ("link", "beside") else wiring.nodes)
                    for number in numbers)
        if len(numbers) != (2 if word == "beside" else 1) or not known:
            return index
        if word == "link" and not any(("link", numbers[0]) in piece for piece in pieces):
            made = {("link", numbers[0])}
        elif word in ("both", "together"):
            kind, left, right = wiring.nodes[numbers[0]]
            name = ("node", numbers[0])
            gone = [piece_of(left), piece_of(right)]
            if kind == word and None not in gone and not any(name in piece for piece in pieces):
                if (gone[0] is gone[1]) == (kind == "together"):
                    made = gone[0] | gone[1] | {name}
        elif word == "beside":
            gone = [next((piece for piece in pieces if ("link", link) in piece), None) for link in numbers]
            if None not in gone and gone[0] is not gone[1]:
                made = gone[0] | gone[1]
        if made is None:
            return index
        pieces = [piece for piece in pieces if not any(piece is old for old in gone)] + [made]
    whole = len(pieces) == 1 and len(pieces[0]) == len(wiring.links) + len(wiring.nodes)
    return None if whole else len(steps)


class FaultTests(unittest.TestCase):
    def test_derivations(self):
        self.assertIsNone(fault_in_derivation(WIRING, STEPS))
        self.assertIsNone(fault_in_derivation(WIRING, tuple(STEPS)))
        self.assertIsNone(fault_in_derivation(WIRING, [("link", 2), ("link", 1), ("beside", 2, 1), ("link", 0),
                                                       ("both", 0), ("together", 1)]))
        self.assertIsNone(fault_in_derivation(Wiring([(0, 1)], []), [("link", 0)]))

    def test_steps_that_cannot_be_done(self):
        for index, step in ((0, ("link", 3)), (0, ("link", -1)), (0, ("link", 10 ** 20)), (1, ("link", 0)),
                            (2, ("link", 0)), (0, ("both", 0)), (1, ("both", 0)), (2, ("both", 1)), (2, ("both", 2)),
                            (2, ("both", -2)), (3, ("both", 0)), (2, ("together", 0)), (2, ("together", 1)),
                            (4, ("together", 1)), (3, ("together", 2)), (3, ("together", -1)), (0, ("beside", 0, 1)),
                            (1, ("beside", 0, 1)), (2, ("beside", 0, 0)), (3, ("beside", 0, 1)), (5, ("beside", 0, 3)),
                            (5, ("beside", 4, 2)), (5, ("beside", -1, 2)), (5, ("beside", 2, -3)),
                            (5, ("beside", 2, 10 ** 20)), (6, ("beside", 1, 2)), (6, ("beside", 2, 0))):
            self.assertEqual(index, fault_in_derivation(WIRING, STEPS[:index] + [step] + STEPS[index:]), step)

    def test_other_words_and_counts(self):
        for index in range(7):
            for step in (("links", 2), ("", 0), ("beside", 2), ("beside",), ("beside", 1, 2, 0), ("link",), ("both",),
                         ("link", 2, 2), ("both", 0, 0), ("together",), ("together", 1, 1), ("Link", 2), ("node", 0),
                         ("turn", 0, 1)):
                self.assertEqual(index, fault_in_derivation(WIRING, STEPS[:index] + [step] + STEPS[index:]), step)

    def test_steps_that_do_not_build_all(self):
        for count in range(6):
            self.assertEqual(count, fault_in_derivation(WIRING, STEPS[:count]))
        self.assertEqual(0, fault_in_derivation(Wiring([(0, 1)], []), []))
        self.assertEqual(2, fault_in_derivation(Wiring([(0, 1), (2, 3)], []), [("link", 1), ("link", 0)]))
        self.assertEqual(1, fault_in_derivation(Wiring([(0, 1)], [("together", 0, 1)]), [("link", 0)]))

    def test_a_node_is_no_link(self):
        # After these steps the place 3, which is that of node 0, is built, but there is no link 3.
        for step in (("beside", 2, 3), ("beside", 3, 2), ("link", 4)):
            self.assertEqual(5, fault_in_derivation(WIRING, STEPS[:5] + [step]))

    def test_against_the_words_of_the_document(self):
        rng = random.Random(64)
        right = 0
        for wiring in small_wirings(150, 66):
            words = [("link", link) for link in range(-1, len(wiring.links) + 1)]
            words += [(word, node) for node in range(-1, len(wiring.nodes) + 1) for word in ("both", "together")]
            words += [("beside", one, other) for one in range(len(wiring.links)) for other in range(len(wiring.links))]
            steps = find_derivation(wiring) or words[:]
            lists = [steps] + [rng.sample(words, rng.randint(1, len(words))) for _ in range(5)]
            for _ in range(10):
                changed = list(steps)
                one, other = rng.randrange(len(steps)), rng.randrange(len(steps))
                changed[one], changed[other] = changed[other], changed[one]
                lists += [changed, changed[:one] + [rng.choice(words)] + changed[one:], steps[:one] + steps[one + 1:]]
            for found in lists:
                fault = fault_by_words(wiring, found)
                right += fault is None
                self.assertEqual(fault, fault_in_derivation(wiring, found))
        self.assertGreater(right, 100)


class FindTests(unittest.TestCase, Cases):
    def check(self, wiring):
        steps = find_derivation(wiring)
        self.assertIs(is_sound(wiring), steps is not None)
        if steps is not None:
            self.assertIsNone(fault_by_words(wiring, steps))
            self.assertIsNone(fault_in_derivation(wiring, steps))
            web = web_of_wiring(wiring)
            order = opening_of(wiring, steps)
            self.assertEqual(list(web.joints), sorted(order))
            self.assertIsNone(fault_in_order(web, order))
        return steps

    def test_ordinary_wirings(self):
        self.assertEqual([("link", 0)], self.check(Wiring([(0, 1)], [])))
        self.assertEqual([("link", 0), ("together", 0)], self.check(Wiring([(1, 0)], [("together", 0, 1)])))
        self.assertIsNone(self.check(Wiring([(1, 0)], [("both", 0, 1)])))
        self.assertIsNotNone(self.check(WIRING))
        self.assertIsNone(self.check(Wiring([(0, 1), (2, 3)], [("both", 0, 2), ("both", 1, 3)])))
        self.assertEqual(3, len(self.check(Wiring([(0, 1), (2, 3)], []))))
        self.assertEqual(5, len(self.check(Wiring([(0, 1), (2, 3)], [("together", 0, 2), ("together", 3, 1)]))))

    def test_derivations_and_settings(self):
        sound = 0
        for wiring in small_wirings(250, 67, most_nodes=9):
            steps = self.check(wiring)
            sound += steps is not None
            rings = [ring_under(wiring, setting) for setting in settings(wiring)]
            self.assertIs(steps is not None, rings == [None] * len(rings))
        self.assertTrue(50 < sound < 200)

    def test_wirings_of_40_links(self):
        for seed in range(8):
            for boths in (0, 20, 39):
                self.assertIsNotNone(self.check(sound_wiring(seed, 40, boths)))
        links = [(2 * link, 2 * link + 1) for link in range(40)]
        chain = [("both", 2 * link + 1, 2 * link + 2) for link in range(39)]
        self.assertIsNotNone(self.check(Wiring(links, chain)))
        self.assertIsNotNone(self.check(Wiring(links, chain + [("together", 79, 0)])))
        self.assertIsNone(self.check(Wiring(links, chain + [("both", 79, 0)])))

    def test_new_lists(self):
        self.assert_new_list(find_derivation, WIRING)
        self.assert_new_list(opening_of, WIRING, STEPS)


class OpeningTests(unittest.TestCase):
    def test_nodes_backward_and_then_links(self):
        self.assertEqual([3, 0, 1], opening_of(WIRING, STEPS))
        wiring = Wiring([(0, 1), (2, 3), (4, 5)], [("together", 1, 0), ("both", 6, 2), ("together", 7, 3),
                                                   ("both", 8, 4), ("together", 9, 5)])
        steps = [("link", 2), ("link", 1), ("link", 0), ("together", 0), ("both", 1), ("together", 2), ("both", 3),
                 ("together", 4)]
        self.assertIsNone(fault_in_derivation(wiring, steps))
        self.assertEqual([6, 5, 4, 3, 0, 1, 2], opening_of(wiring, steps))
        self.assertEqual([6, 5, 4, 3, 0, 1, 2], opening_of(wiring, tuple(steps)))

    def test_places_that_are_not_joints_are_left_out(self):
        wiring = Wiring([(0, 1), (2, 3)], [("both", 0, 2), ("together", 1, 4)])
        steps = [("link", 1), ("link", 0), ("both", 0), ("together", 1)]
        self.assertIsNone(fault_in_derivation(wiring, steps))
        self.assertEqual([2, 0], opening_of(wiring, steps))
        self.assertEqual([], opening_of(Wiring([(0, 1)], []), [("link", 0)]))


if __name__ == "__main__":
    unittest.main()
