"""What several test files need."""

import copy
import random
from unittest.mock import ANY

from comesapart.cycles import is_turning_cycle, normal_cycle
from comesapart.webs import Web


def random_web(rng, places, ties, most_sides=3):
    """Return a random web; equal ties, loops and unused sides occur."""
    sides = [rng.randint(1, most_sides) for _ in range(places)]
    if places == 0:
        return Web([], [])
    return Web(sides, [random_end(rng, sides) + random_end(rng, sides) for _ in range(ties)])


def random_end(rng, sides):
    place = rng.randrange(len(sides))
    return (place, rng.randrange(sides[place]))


def small_webs(count, seed, most_places=6, most_ties=8, most_sides=3):
    """Return random small webs, the same in each run."""
    rng = random.Random(seed)
    return [random_web(rng, rng.randint(0, most_places), rng.randint(0, most_ties), rng.randint(1, most_sides))
            for _ in range(count)]


def steps_of(web):
    """Return all steps of the web, ascending."""
    return [(tie, direction) for tie in range(len(web.ties)) for direction in (0, 1)]


def all_turning_cycles(web):
    """Return all turning cycles of a small web in normal form, found by trying all cycles."""
    found = set()
    chains = [[step] for step in steps_of(web)]
    while chains:
        chain = chains.pop()
        if is_turning_cycle(web, chain):
            found.add(tuple(normal_cycle(chain)))
        left = [web.tail(step)[0] for step in chain]
        here = web.head(chain[-1])[0]
        if here not in left:
            chains += [chain + [step] for step in web.steps_from(here)]
    return sorted(list(cycle) for cycle in found)


def chain_of_doubles(links):
    """Return a web in which each place but the last is a hinge only when the next one has been opened.

    Two ties join each place with the next one, on two sides of the place and on one side of the next one.
    """
    ties = []
    for place in range(links):
        ties += [(place, 0, place + 1, 2), (place, 1, place + 1, 2)]
    return Web([3] * links + [3, 1], ties + [(links, 0, links + 1, 0)])


class Cases:
    """Assertions that several test cases share."""

    def assert_raises(self, error, fields, function, *args, **more):
        """The call raises exactly this error with exactly these fields."""
        with self.assertRaises(error) as caught:
            function(*args, **more)
        self.assertIs(error, caught.exception.__class__)
        for name, value in fields.items():
            self.assertEqual(value, getattr(caught.exception, name))

    def assert_new_list(self, function, *args):
        """The call returns a list, and changing it has no effect on the next call; the arguments stay."""
        before = copy.deepcopy(args)
        first = function(*args)
        self.assertIs(list, first.__class__)
        kept = copy.deepcopy(first)
        for item in first:
            if isinstance(item, list):
                item.append("changed")
        first.append("changed")
        self.assertEqual(kept, function(*args))
        self.assertEqual(before, args)

    def assert_only_equal_to_its_class(self, thing, *others):
        """The object does not equal values of other classes, not even one that equals everything."""
        for other in (None, 0, "", (), [], {}, object(), *others):
            self.assertFalse(thing == other)
            self.assertTrue(thing != other)
        self.assertFalse(thing.__eq__(ANY))
