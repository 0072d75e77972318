"""What several test files need."""

import copy
import itertools
import random
from unittest.mock import ANY

from comesapart.cycles import is_turning_cycle, normal_cycle
from comesapart.groups import grouped
from comesapart.pairedwebs import PairedWeb
from comesapart.webs import Web
from comesapart.wirings import Wiring


def random_web(rng, places, ties, most_sides=3):
    """Return a random web; equal ties, loops and unused sides occur."""
    sides = [rng.randint(1, most_sides) for _ in range(places)]
    if places == 0:
        return Web([], [])
    return Web(sides, [random_end(rng, sides) + random_end(rng, sides) for _ in range(ties)])


def random_end(rng, sides):
    place = rng.randrange(len(sides))
    return (place, rng.randrange(sides[place]))


def small_webs(count, seed, most_places=6, most_ties=8, most_sides=3):
    """Return random small webs, the same in each run."""
    rng = random.Random(seed)
    return [random_web(rng, rng.randint(0, most_places), rng.randint(0, most_ties), rng.randint(1, most_sides))
            for _ in range(count)]


def steps_of(web):
    """Return all steps of the web, ascending."""
    return [(tie, direction) for tie in range(len(web.ties)) for direction in (0, 1)]


def all_turning_cycles(web):
    """Return all turning cycles of a small web in normal form, found by trying all cycles."""
    found = set()
    chains = [[step] for step in steps_of(web)]
    while chains:
        chain = chains.pop()
        if is_turning_cycle(web, chain):
            found.add(tuple(normal_cycle(chain)))
        left = [web.tail(step)[0] for step in chain]
        here = web.head(chain[-1])[0]
        if here not in left:
            chains += [chain + [step] for step in web.steps_from(here)]
    return sorted(list(cycle) for cycle in found)


def chain_of_doubles(links):
    """Return a web in which each place but the last is a hinge only when the next one has been opened.

    Two ties join each place with the next one, on two sides of the place and on one side of the next one.
    """
    ties = []
    for place in range(links):
        ties += [(place, 0, place + 1, 2), (place, 1, place + 1, 2)]
    return Web([3] * links + [3, 1], ties + [(links, 0, links + 1, 0)])


def random_paired(rng, pairs, free):
    """Return a random paired web; loops, equal ties and ties of partners occur."""
    return PairedWeb(pairs, [(rng.randrange(2 * pairs), rng.randrange(2 * pairs)) for _ in range(free if pairs else 0)])


def small_paired(count, seed, most_pairs=4, most_free=7):
    """Return random small paired webs, the same in each run."""
    rng = random.Random(seed)
    return [random_paired(rng, rng.randint(0, most_pairs), rng.randint(0, most_free)) for _ in range(count)]


def odd_ears(pairs, seed):
    """Return a paired web of odd cycles that lie inside of odd cycles.

    Its points but 0 have a pairing without any one of them: pair by pair, two points are put as an odd chain between
    two of the points 1 and up that are there already.
    """
    rng = random.Random(seed)
    free = []
    for pair in range(1, pairs):
        free += [(rng.randrange(1, 2 * pair), 2 * pair), (2 * pair + 1, rng.randrange(1, 2 * pair))]
    rng.shuffle(free)
    return PairedWeb(pairs, free)


def small_graphs(count, seed, most_points=7, most_ties=9):
    """Return random small graphs (points, ties) in which foreign ends, loops and equal ties occur."""
    rng = random.Random(seed)
    graphs = []
    for _ in range(count):
        points = rng.sample(range(-2, 8), rng.randint(0, most_points))
        graphs.append((points, [(rng.randint(-2, 7), rng.randint(-2, 7)) for _ in range(rng.randint(0, most_ties))]))
    return graphs


def fits(points, ties, chosen):
    """Tell whether no point is an end of two of the chosen ties, and all of their ends are points."""
    ends = [end for tie in chosen for end in ties[tie]]
    return len(set(ends)) == len(ends) and set(ends) <= set(points)


def all_pairings(points, ties):
    """Return all pairings of a small graph, found by trying all lists of ties of the right length."""
    if len(points) % 2:
        return []
    return [list(chosen) for chosen in itertools.combinations(range(len(ties)), len(points) // 2)
            if fits(points, ties, chosen)]


def count_uncovered(points, ties):
    """Return how many points a greatest partial pairing of a small graph leaves uncovered, by trying all of them."""
    for count in range(len(points) // 2, -1, -1):
        if any(fits(points, ties, chosen) for chosen in itertools.combinations(range(len(ties)), count)):
            return len(points) - 2 * count


def odd_groups_without(points, ties, removed):
    """Return the number of odd pieces of the graph without the removed points."""
    rest = [point for point in points if point not in removed]
    return len([group for group in grouped(rest, ties) if len(group) % 2])


def random_links(rng, links):
    leaves = list(range(2 * links))
    rng.shuffle(leaves)
    return [(leaves[2 * link], leaves[2 * link + 1]) for link in range(links)]


def random_wiring(rng, links, nodes):
    """Return a random wiring with this number of links and at most this number of nodes."""
    free, made = list(range(2 * links)), []
    while len(free) > 1 and len(made) < nodes:
        left, right = rng.sample(free, 2)
        free = [term for term in free if term not in (left, right)] + [2 * links + len(made)]
        made.append((rng.choice(["both", "together"]), left, right))
    return Wiring(random_links(rng, links), made)


def small_wirings(count, seed, most_links=5, most_nodes=8):
    """Return random small wirings, the same in each run; some are sound and some are not."""
    rng = random.Random(seed)
    return [random_wiring(rng, rng.randint(1, most_links), rng.randint(0, most_nodes)) for _ in range(count)]


def sound_wiring(seed, links, boths):
    """Return a wiring with a derivation: boths join random pieces, then togethers join random roots of a piece."""
    rng = random.Random(seed)
    made = []
    pieces = [list(link) for link in random_links(rng, links)]
    links_of_pieces = [tuple(piece) for piece in pieces]
    while len(pieces) > links - boths:
        one, other = rng.sample(pieces, 2)
        left, right = rng.choice(one), rng.choice(other)
        pieces = [piece for piece in pieces if piece not in (one, other)]
        pieces.append([term for term in one + other if term not in (left, right)] + [2 * links + len(made)])
        made.append(("both", left, right))
        if rng.random() < 0.5 or len(pieces) == links - boths:
            piece = rng.choice(pieces)
            while len(piece) > 1 and rng.random() < 0.7:
                left, right = rng.sample(piece, 2)
                piece.remove(left)
                piece.remove(right)
                piece.append(2 * links + len(made))
                made.append(("together", left, right))
    return Wiring(links_of_pieces, made)


def opposite_word(kind):
    return {"both": "together", "together": "both"}[kind]


def cut_wiring(rng, trees, links):
    """Return a random wiring and cuts of it: this number of trees and their opposites, and other roots.

    The wiring has at least the leaves of the trees, and it has more if the number of links asks for it.
    """
    shapes = [random_tree(rng, rng.randint(1, 3)) for _ in range(trees)]
    count = 2 * max(links, sum(count_leaves(shape) for shape in shapes) + rng.randint(0, 1))
    count = max(count, 2)
    free, made, cuts = list(range(count)), [], []
    rng.shuffle(free)
    for shape in shapes:
        one = add_tree(shape, free, made, count, lambda kind: kind)
        other = add_tree(shape, free, made, count, opposite_word)
        cuts.append((one, other) if rng.random() < 0.5 else (other, one))
    while len(free) > 1 and rng.random() < 0.8:
        left, right = rng.sample(free, 2)
        free = [term for term in free if term not in (left, right)] + [count + len(made)]
        made.append((rng.choice(["both", "together"]), left, right))
    return Wiring(random_links(rng, count // 2), made), cuts


def random_tree(rng, leaves):
    """Return a tree of kinds: None for a leaf, otherwise a tuple of a kind and two trees."""
    if leaves == 1:
        return None
    left = rng.randint(1, leaves - 1)
    return (rng.choice(["both", "together"]), random_tree(rng, left), random_tree(rng, leaves - left))


def count_leaves(tree):
    return 1 if tree is None else count_leaves(tree[1]) + count_leaves(tree[2])


def add_tree(tree, free, made, leaves, word):
    """Add the nodes of the tree over free leaves; return its term."""
    if tree is None:
        return free.pop()
    left = add_tree(tree[1], free, made, leaves, word)
    right = add_tree(tree[2], free, made, leaves, word)
    made.append((word(tree[0]), left, right))
    return leaves + len(made) - 1


def small_cut_wirings(count, seed, most_trees=3, most_links=5):
    """Return random small wirings with cuts, the same in each run."""
    rng = random.Random(seed)
    return [cut_wiring(rng, rng.randint(0, most_trees), rng.randint(1, most_links)) for _ in range(count)]


def random_shape(rng, letters, names="ab", words=("both", "together")):
    """Return a random shape with this number of letters."""
    if letters == 1:
        return ("letter", rng.choice(names), rng.random() < 0.5)
    left = rng.randint(1, letters - 1)
    return (rng.choice(words), random_shape(rng, left, names, words), random_shape(rng, letters - left, names, words))


def all_programs(funs, free=()):
    """Yield all programs with this number of funs in which each of the free names is used once, with plain names.

    The names of the funs are those behind the free names in the alphabet, in reading order.
    """
    for tree in program_trees(funs, len(free)):
        for order in itertools.permutations(range(len(free) + funs)):
            program = filled_program(tree, list(order), list(free), len(free))
            if program is not None:
                yield program


def program_trees(funs, names):
    """Yield programs without names: None for a name, (part,) for a fun and (part, part) for a use."""
    if funs == 0 and names == 1:
        yield None
    if funs > 0:
        for body in program_trees(funs - 1, names + 1):
            yield (body,)
    for left_funs in range(funs + 1):
        for left_names in range(names + 1):
            if 0 < left_funs + left_names < funs + names:
                for left in program_trees(left_funs, left_names):
                    for right in program_trees(funs - left_funs, names - left_names):
                        yield (left, right)


def filled_program(tree, order, around, bound):
    """Return the program of the tree whose names stand in this order from left to right, or None if one is not bound.

    The order is emptied; around has the names that are bound around the tree, bound counts those that were bound.
    """
    state = [bound]

    def fill(part, names):
        if part is None:
            name = PLAIN[order.pop(0)]
            return ("name", name) if name in names else None
        if len(part) == 1:
            name = PLAIN[state[0]]
            state[0] += 1
            body = fill(part[0], names + [name])
            return None if body is None else ("fun", name, body)
        function = fill(part[0], names)
        argument = None if function is None else fill(part[1], names)
        return None if argument is None else ("use", function, argument)

    return fill(tree, around)


PLAIN = "abcdefghijklmnopqrstuvwxyz"


def small_programs(most_funs=3):
    """Return all programs without free names that have up to this number of funs."""
    return [program for funs in range(1, most_funs + 1) for program in all_programs(funs)]


def random_program(rng, funs):
    """Return a random program with this number of funs and without free names."""
    counter = itertools.count()

    def make(count, free):
        if count == 0 and len(free) == 1:
            return ("name", free[0])
        weight = count + len(free)
        if count > 0 and (weight == 1 or rng.random() < 0.5):
            name = "n" + PLAIN[next(counter)]
            return ("fun", name, make(count - 1, free + [name]))
        items = ["fun"] * count + free
        rng.shuffle(items)
        at = rng.randint(1, weight - 1)
        left, right = items[:at], items[at:]
        return ("use", *[make(part.count("fun"), [name for name in part if name != "fun"]) for part in (left, right)])

    return make(funs, [])


def bad_sign_by_words(ends_of_forms, text):
    """Return the field of BadSign for the text, or None for a written form.

    The function returns, for a text and an index, the ends of all written forms that begin there, and whether one of
    them goes on behind the text.
    """
    for end in range(1, len(text) + 1):
        ends, open_end = ends_of_forms(text[:end], 0)
        if not open_end and end not in ends:
            return end - 1
    return None if len(text) in ends_of_forms(text, 0)[0] else len(text)


class Cases:
    """Assertions that several test cases share."""

    def assert_raises(self, error, fields, function, *args, **more):
        """The call raises exactly this error with exactly these fields."""
        with self.assertRaises(error) as caught:
            function(*args, **more)
        self.assertIs(error, caught.exception.__class__)
        for name, value in fields.items():
            self.assertEqual(value, getattr(caught.exception, name))

    def assert_new_list(self, function, *args):
        """The call returns a list, and changing it has no effect on the next call; the arguments stay."""
        before = copy.deepcopy(args)
        first = function(*args)
        self.assertIs(list, first.__class__)
        kept = copy.deepcopy(first)
        for item in first:
            if isinstance(item, list):
                item.append("changed")
        first.append("changed")
        self.assertEqual(kept, function(*args))
        self.assertEqual(before, args)

    def assert_only_equal_to_its_class(self, thing, *others):
        """The object does not equal values of other classes, not even one that equals everything."""
        for other in (None, 0, "", (), [], {}, object(), *others):
            self.assertFalse(thing == other)
            self.assertTrue(thing != other)
        self.assertFalse(thing.__eq__(ANY))
