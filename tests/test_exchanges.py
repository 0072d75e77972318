"""Point 67: exchanges of neighbouring steps, and orders of nodes."""

import itertools
import random
import unittest

from helpers import Cases, small_wirings, sound_wiring

from comesapart.derivations import fault_in_derivation, find_derivation
from comesapart.errors import TooLarge
from comesapart.exchanges import NotSameSteps, exchanges, node_orders
from comesapart.wirings import Wiring
from comesapart.wiringwebs import is_sound, is_whole

STEPS = [("link", 0), ("link", 1), ("both", 0), ("beside", 0, 1), ("together", 1)]


def exchanges_by_words(first, second):
    """Move each step of the second list to its index, as the document says."""
    current, found = list(first), []
    for index in range(len(second)):
        while current[index] != second[index]:
            at = current.index(second[index])
            current[at - 1], current[at] = current[at], current[at - 1]
            found.append(at - 1)
    return found


def orders_by_words(wiring):
    """Try all orders of the nodes."""
    links = [("link", link) for link in range(len(wiring.links))]
    found = []
    for order in itertools.permutations(range(len(wiring.nodes))):
        steps = links + [(wiring.nodes[node][0], node) for node in order]
        if is_whole(wiring) and fault_in_derivation(wiring, steps) is None:
            found.append(list(order))
    return found


class ExchangesTests(unittest.TestCase, Cases):
    def test_example_of_the_document(self):
        first = [("link", 0), ("link", 1), ("both", 0)]
        self.assertEqual([0], exchanges(first, [("link", 1), ("link", 0), ("both", 0)]))

    def test_equal_and_empty_lists(self):
        self.assertEqual([], exchanges(STEPS, list(STEPS)))
        self.assertEqual([], exchanges([], []))
        self.assertEqual([], exchanges((), []))
        self.assertEqual([], exchanges([("link", 3)], [("link", 3)]))

    def test_the_reverse_of_a_list(self):
        self.assertEqual([3, 2, 1, 0, 3, 2, 1, 3, 2, 3], exchanges(STEPS, STEPS[::-1]))

    def test_the_last_step_comes_first(self):
        self.assertEqual([3, 2, 1, 0], exchanges(STEPS, STEPS[4:] + STEPS[:4]))
        self.assertEqual([0, 1, 2, 3], exchanges(STEPS, STEPS[1:] + STEPS[:1]))

    def test_any_lists_against_the_words_of_the_document(self):
        rng = random.Random(67)
        for _ in range(200):
            first = [("link", link) for link in range(rng.randint(0, 9))] + [("beside", 1, 2), ("beside", 2, 1)]
            rng.shuffle(first)
            second = rng.sample(first, len(first))
            found = exchanges(first, second)
            self.assertEqual(exchanges_by_words(first, second), found)
            for at in found:
                first[at], first[at + 1] = first[at + 1], first[at]
            self.assertEqual(second, first)

    def test_a_step_that_stands_twice(self):
        twice = [("link", 0), ("link", 1), ("link", 0)]
        for first, second in ((twice, twice), (twice, twice[:2]), (twice[:2], twice), (twice, [("link", 0)] * 3),
                              ([("link", 0)] * 2, [("link", 0)] * 2), (twice, [("link", 0), ("link", 1), ("link", 2)]),
                              ([("link", 0), ("link", 1), ("link", 2)], twice)):
            self.assert_raises(NotSameSteps, {}, exchanges, first, second)

    def test_different_steps(self):
        for first, second in (([], STEPS[:1]), (STEPS[:1], []), (STEPS[:4], STEPS), (STEPS, STEPS[1:]),
                              (STEPS[:2], STEPS[1:3]), ([("both", 0)], [("together", 0)]),
                              ([("both", 0)], [("both", 1)]),
                              ([("beside", 0, 1)], [("beside", 1, 0)])):
            self.assert_raises(NotSameSteps, {}, exchanges, first, second)

    def test_new_lists(self):
        self.assert_new_list(exchanges, STEPS, STEPS[::-1])
        self.assert_new_list(exchanges, tuple(STEPS), tuple(STEPS[1:] + STEPS[:1]))

    def test_from_a_derivation_to_its_steps_in_another_order(self):
        for seed in range(20):
            wiring = sound_wiring(seed, 5, 4)
            rng = random.Random(seed)
            first = find_derivation(wiring)
            second = rng.sample(first, len(first))
            for at in exchanges(first, second):
                first[at], first[at + 1] = first[at + 1], first[at]
            self.assertEqual(second, first)


class OrdersTests(unittest.TestCase, Cases):
    def test_ordinary_wirings(self):
        pair = Wiring([(0, 1), (2, 3)], [("both", 0, 2), ("together", 1, 3), ("together", 4, 5)])
        self.assertEqual([[0, 1, 2]], node_orders(pair))
        chain = Wiring([(0, 1), (2, 3), (4, 5)], [("both", 1, 2), ("both", 3, 4), ("together", 0, 5)])
        self.assertEqual([[0, 1, 2], [1, 0, 2]], node_orders(chain))
        split = Wiring([(0, 1), (2, 3)], [("together", 1, 0), ("together", 2, 3), ("both", 4, 5)])
        self.assertEqual([[0, 1, 2], [1, 0, 2]], node_orders(split))

    def test_wirings_that_are_not_whole(self):
        for wiring, sound in ((Wiring([(0, 1), (2, 3)], []), True),
                              (Wiring([(0, 1), (2, 3)], [("together", 1, 2)]), True),
                              (Wiring([(0, 1)], [("both", 0, 1)]), False),
                              (Wiring([(0, 1), (2, 3)], [("both", 0, 1)]), False)):
            self.assertIs(sound, is_sound(wiring))
            self.assertEqual([], node_orders(wiring))

    def test_a_whole_wiring_without_nodes(self):
        self.assertEqual([[]], node_orders(Wiring([(1, 0)], [])))

    def test_against_all_orders(self):
        whole = 0
        wirings = small_wirings(150, 67, most_links=4, most_nodes=5)
        wirings += [sound_wiring(seed, links, links - 1) for seed in range(30) for links in (2, 3, 4)]
        for wiring in wirings:
            if len(wiring.nodes) < 7:
                whole += is_whole(wiring)
                self.assertEqual(orders_by_words(wiring), node_orders(wiring))
        self.assertGreater(whole, 80)

    def test_most_nodes(self):
        links = [(2 * link, 2 * link + 1) for link in range(10)]
        boths = [("both", 2 * link + 1, 2 * link + 2) for link in range(9)]
        orders = node_orders(Wiring(links[:9], boths[:8]))
        self.assertEqual([list(order) for order in itertools.permutations(range(8))], orders)
        self.assertEqual([list(range(8))], node_orders(Wiring(links[:8], [("together", 0, 1)] + [
            ("both", 15 + node, 2 * node) for node in range(1, 8)])))
        for wiring in (Wiring(links, boths), Wiring(links[:9], boths[:8] + [("together", 0, 17)]),
                       Wiring(links[:9], boths[:8] + [("both", 0, 17)]),
                       Wiring(links, [("together", 2 * link, 2 * link + 1) for link in range(9)])):
            self.assert_raises(TooLarge, {"limit": 8}, node_orders, wiring)

    def test_each_list_is_new(self):
        self.assert_new_list(node_orders, Wiring([(1, 0)], []))
        self.assert_new_list(node_orders, Wiring([(0, 1), (2, 3), (4, 5)], [("both", 1, 2), ("both", 3, 4)]))
        orders = node_orders(Wiring([(0, 1), (2, 3), (4, 5)], [("both", 1, 2), ("both", 3, 4)]))
        orders[0].append("changed")
        self.assertEqual([1, 0], orders[1])


if __name__ == "__main__":
    unittest.main()
