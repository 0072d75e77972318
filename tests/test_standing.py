"""Points 89 and 90: rows of kinds, and which kinds can stand for which."""

import itertools
import random
import unittest

from helpers import Cases, random_shape

from comesapart.cycles import is_turning_cycle
from comesapart.errors import BadLink, NoLinks, TooLarge
from comesapart.joining import joined
from comesapart.kinds import Kind, alike
from comesapart.kindtext import parse_kind
from comesapart.search import cycle_by_dropping
from comesapart.standing import (all_links, barring_cycle, can_stand_for, composed, plain_links, standings,
                                 there_and_back, wiring_of_kinds)
from comesapart.trails import trail_links
from comesapart.wirings import Wiring
from comesapart.wiringwebs import is_sound, is_whole, web_of_wiring

A, B = Kind.letter("a"), Kind.letter("b")
# Three letters of each sign, and seven letters of one sign.
SIX = parse_kind("((a & a') & ((a & a') & (a & a')))")
SEVEN = parse_kind("((a | a) | ((a | a) | (a | (a | a))))")


def kinds(*texts):
    return [parse_kind(text) for text in texts]


def small_kinds(count, seed, most_letters, names="ab"):
    rng = random.Random(seed)
    return [Kind(random_shape(rng, rng.randint(1, most_letters), names=names)) for _ in range(count)]


def kinds_with_links(rng, count, most_letters=4):
    """Return random kinds of letters a; the positive letters are as many more than the negative ones in all of them."""
    more = rng.randint(0, 2)
    found = []
    for _ in range(count):
        fewer = rng.randint(0 if more else 1, (most_letters - more) // 2)
        signs = [True] * (more + fewer) + [False] * fewer
        rng.shuffle(signs)
        found.append(Kind(with_signs(random_shape(rng, len(signs), names="a"), signs)))
    return found


def with_signs(shape, signs):
    """Return the shape with these signs of its letters; the list is emptied."""
    if shape[0] == "letter":
        return ("letter", shape[1], signs.pop())
    return (shape[0], with_signs(shape[1], signs), with_signs(shape[2], signs))


def rows_with_links(count, seed, most_letters=6):
    """Return random rows of kinds, half of which have as many positive as negative letters of each name."""
    rng = random.Random(seed)
    rows = []
    for _ in range(count):
        row = [Kind(random_shape(rng, rng.randint(1, 2))) for _ in range(rng.randint(1, 2))]
        row += [~kind for kind in row] if rng.random() < 0.7 else []
        rng.shuffle(row)
        if sum(len(kind.letters) for kind in row) <= most_letters:
            rows.append(row)
    return rows


def nodes_by_words(row):
    """Number the nodes in the words of point 89."""
    leaves = sum(len(kind.letters) for kind in row)
    nodes, taken = [], itertools.count()

    def term(shape):
        if shape[0] == "letter":
            return next(taken)
        left = term(shape[1])
        right = term(shape[2])
        nodes.append((shape[0], left, right))
        return leaves + len(nodes) - 1

    for kind in row:
        term(kind.shape)
    return nodes


def all_links_by_words(row):
    """Try all ascending lists of tuples of two leaves."""
    leaves = sum(len(kind.letters) for kind in row)
    found = []
    for links in itertools.combinations(itertools.permutations(range(leaves), 2), leaves // 2):
        try:
            wiring_of_kinds(row, list(links))
        except (NoLinks, BadLink):
            continue
        found.append(list(links))
    return found


class WiringTests(unittest.TestCase, Cases):
    def test_leaves_and_nodes(self):
        row = kinds("((a & b) | c')", "a'", "(b' & (c | (d & d')))")
        links = [(0, 3), (1, 4), (5, 2), (6, 7)]
        nodes = [("both", 0, 1), ("together", 8, 2), ("both", 6, 7), ("together", 5, 10), ("both", 4, 11)]
        self.assertEqual(Wiring(links, nodes), wiring_of_kinds(row, links))
        self.assertEqual(Wiring(links[::-1], nodes), wiring_of_kinds(tuple(row), tuple(links[::-1])))
        self.assertEqual(Wiring([(0, 1)], []), wiring_of_kinds(kinds("a", "a'"), [(0, 1)]))

    def test_against_the_words_of_the_document(self):
        for row in rows_with_links(100, 89, 12):
            for links in all_links(row)[:3]:
                self.assertEqual(Wiring(links, nodes_by_words(row)), wiring_of_kinds(row, links))

    def test_the_number_of_links(self):
        row = kinds("(a & b)", "(a' | b')")
        self.assert_raises(NoLinks, {}, wiring_of_kinds, row, [])
        self.assert_raises(NoLinks, {}, wiring_of_kinds, [], [])
        self.assert_raises(TooLarge, {"limit": 40}, wiring_of_kinds, row, [(0, 2)] * 41)
        many = [Kind.letter("a")] * 40 + [~Kind.letter("a")] * 40
        links = [(leaf, 40 + leaf) for leaf in range(40)]
        self.assertEqual(Wiring(links, []), wiring_of_kinds(many, links))
        self.assert_raises(TooLarge, {"limit": 40}, wiring_of_kinds, many + [A, ~A], links + [(80, 81)])

    def test_ends_that_do_not_fit(self):
        row = kinds("(a & b)", "(a' | b')")
        for link in ((4, 3), (1, 4), (-1, 3), (1, -1), (1, 10 ** 20), (0, 3), (1, 2), (2, 1), (1, 1), (3, 3), (0, 2)):
            self.assert_raises(BadLink, {"link": 1}, wiring_of_kinds, row, [(0, 2), link])
            self.assert_raises(BadLink, {"link": 1}, wiring_of_kinds, row, [(0, 2), link, (9, 9), (1, 3)])
            # Links of wrong signs and leaves without a link come later.
            self.assert_raises(BadLink, {"link": 1}, wiring_of_kinds, row, [(2, 0), (9, 9)])

    def test_leaves_without_a_link(self):
        row = kinds("(a & b)", "(a' | b')")
        self.assert_raises(BadLink, {"link": 1}, wiring_of_kinds, row, [(0, 2)])
        self.assert_raises(BadLink, {"link": 1}, wiring_of_kinds, row, [(2, 0)])
        self.assert_raises(BadLink, {"link": 1}, wiring_of_kinds, row, [(0, 3)])
        self.assert_raises(BadLink, {"link": 2}, wiring_of_kinds, row + [A, ~A], [(3, 1), (2, 0)])
        self.assert_raises(BadLink, {"link": 1}, wiring_of_kinds, kinds("a", "a'", "a"), [(0, 1)])

    def test_signs_and_names(self):
        row = kinds("(a & b)", "(a' | b')", "a", "a'")
        for links in ([(0, 2), (3, 1), (5, 4)], [(0, 2), (1, 5), (4, 3)], [(0, 5), (1, 2), (4, 3)],
                      [(0, 2), (1, 4), (3, 5)], [(0, 5), (2, 3), (1, 4)], [(0, 5), (4, 3), (1, 2)]):
            self.assert_raises(BadLink, {"link": 1}, wiring_of_kinds, row, links)
        self.assert_raises(BadLink, {"link": 0}, wiring_of_kinds, row, [(2, 0), (3, 1), (5, 4)])
        self.assert_raises(BadLink, {"link": 2}, wiring_of_kinds, row, [(4, 2), (1, 3), (5, 0)])
        self.assertEqual(3, len(wiring_of_kinds(row, [(4, 2), (1, 3), (0, 5)]).links))


class AllLinksTests(unittest.TestCase, Cases):
    def test_ascending(self):
        self.assertEqual([[(0, 1)]], all_links(kinds("a", "a'")))
        self.assertEqual([[(1, 0)]], all_links(kinds("(a' | a)")))
        self.assertEqual([[(0, 1), (2, 3)], [(0, 3), (2, 1)]], all_links(kinds("(a & a')", "(a & a')")))
        self.assertEqual([[(0, 3), (2, 1)]], all_links(kinds("(a | b')", "(b & a')")))

    def test_rows_without_links(self):
        for row in ([], kinds("a"), kinds("a", "a"), kinds("a", "b'"), kinds("(a & b)", "(a' & a')"),
                    kinds("(a | a')", "b")):
            self.assertEqual([], all_links(row))

    def test_against_the_words_of_the_document(self):
        found = 0
        for row in rows_with_links(60, 90):
            expected = all_links_by_words(row)
            found += len(expected)
            self.assertEqual(expected, all_links(row))
            self.assertEqual(sorted(expected), expected)
        self.assertGreater(found, 40)

    def test_limit(self):
        self.assertEqual(6, len(all_links([SIX])))
        found = all_links([SIX, SIX])
        self.assertEqual(720, len(found))
        self.assertEqual(sorted(found), found)
        self.assertEqual([(0, 1), (2, 3), (4, 5), (6, 7), (8, 9), (10, 11)], found[0])
        self.assert_raises(TooLarge, {"limit": 12}, all_links, [SIX, SIX, A])
        self.assert_raises(TooLarge, {"limit": 12}, all_links, [A] * 13)
        self.assert_raises(TooLarge, {"limit": 12}, all_links, [SEVEN, SIX])

    def test_new_lists(self):
        self.assert_new_list(all_links, kinds("(a & a')", "(a & a')"))


class StandingsTests(unittest.TestCase, Cases):
    def test_words(self):
        # A both can stand for a together only if letters may stand beside one another.
        both, together = kinds("(a & b)", "(a | b)")
        self.assertEqual([([(2, 0), (3, 1)], "whole")], standings(both, both))
        self.assertEqual([([(2, 0), (3, 1)], "sound")], standings(both, together))
        self.assertEqual([([(2, 0), (3, 1)], "barred")], standings(together, both))
        self.assertEqual([], standings(both, A))

    def test_words_follow_the_wirings(self):
        words = []
        rng = random.Random(91)
        for _ in range(100):
            one, other = kinds_with_links(rng, 2)
            found = standings(one, other)
            self.assertEqual(all_links([~one, other]), [links for links, _ in found])
            for links, word in found:
                wiring = wiring_of_kinds([~one, other], links)
                expected = "whole" if is_whole(wiring) else "sound" if is_sound(wiring) else "barred"
                self.assertEqual(expected, word)
                words.append(word)
        self.assertGreater(min(words.count(word) for word in ("whole", "sound", "barred")), 10)

    def test_barring_cycle(self):
        both, together = kinds("(a & b)", "(a | b)")
        self.assertIsNone(barring_cycle(both, together, [(2, 0), (3, 1)]))
        steps = barring_cycle(together, both, [(3, 1), (2, 0)])
        web = web_of_wiring(wiring_of_kinds([~together, both], [(3, 1), (2, 0)]))
        self.assertTrue(is_turning_cycle(web, steps))
        self.assertEqual(cycle_by_dropping(web), steps)
        self.assert_raises(BadLink, {"link": 0}, barring_cycle, together, both, [(0, 2), (3, 1)])
        self.assert_raises(BadLink, {"link": 1}, barring_cycle, together, both, [(2, 0)])
        self.assert_raises(NoLinks, {}, barring_cycle, together, both, [])
        self.assert_raises(TooLarge, {"limit": 40}, barring_cycle, together, both, [(2, 0)] * 41)

    def test_barring_cycles_of_barred_links_only(self):
        rng = random.Random(92)
        for _ in range(60):
            one, other = kinds_with_links(rng, 2)
            for links, word in standings(one, other):
                self.assertIs(word == "barred", barring_cycle(one, other, links) is not None)

    def test_can_stand_for(self):
        both, together = kinds("(a & b)", "(a | b)")
        for one, other, whole, beside in ((both, both, True, True), (both, together, False, True),
                                          (together, both, False, False), (both, A, False, False),
                                          (A, (B | ~B) & A, True, True), ((B & ~B) | A, A, True, True),
                                          (A, (B & ~B) | A, False, False), (A & (B | ~B), A, False, False)):
            self.assertIs(whole, can_stand_for(one, other))
            self.assertIs(whole, can_stand_for(one, other, beside=False))
            self.assertIs(beside, can_stand_for(one, other, beside=True))

    def test_can_stand_for_against_all_words(self):
        answers = []
        rng = random.Random(95)
        for _ in range(150):
            one, other = kinds_with_links(rng, 2)
            words = [word for _, word in standings(one, other)]
            answers.append((can_stand_for(one, other), can_stand_for(one, other, beside=True)))
            self.assertEqual(("whole" in words, "whole" in words or "sound" in words), answers[-1])
        self.assertGreater(min(answers.count(answer) for answer in ((True, True), (False, True), (False, False))), 5)

    def test_limit(self):
        found = standings(SIX, ~SIX)
        self.assertEqual(720, len(found))
        self.assertIs("whole" in [word for _, word in found], can_stand_for(SIX, ~SIX))
        for function in (standings, can_stand_for, there_and_back):
            for one, other in ((SIX, SEVEN), (SEVEN, SIX), (SIX & SIX, A), (A, SIX & SIX), (SEVEN, SEVEN),
                               (SIX, SIX & A)):
                self.assert_raises(TooLarge, {"limit": 12}, function, one, other)
        self.assert_raises(TooLarge, {"limit": 12}, can_stand_for, SEVEN, SIX, beside=True)

    def test_new_lists(self):
        self.assert_new_list(standings, A & ~A, A & ~A)
        found = standings(A & ~A, A & ~A)
        self.assertIs(tuple, found[0].__class__)
        found[0][0].append("changed")
        self.assertNotEqual(found, standings(A & ~A, A & ~A))


class ComposedTests(unittest.TestCase, Cases):
    def test_plain_links(self):
        self.assertEqual([(1, 0)], plain_links(A))
        self.assertEqual([(0, 1)], plain_links(~A))
        self.assertEqual([(1, 4), (3, 0), (5, 2)], plain_links(parse_kind("((a & b') | c)")))
        self.assert_new_list(plain_links, A & ~B)
        for kind in small_kinds(30, 97, 6) + small_kinds(5, 98, 40):
            links = plain_links(kind)
            self.assertEqual(sorted(links), links)
            wiring = wiring_of_kinds([~kind, kind], links)
            self.assertTrue(is_whole(wiring))
            self.assertEqual([sorted((leaf, leaf + len(kind.letters))) for leaf in range(len(kind.letters))],
                             sorted(sorted(link) for link in links))

    def test_plain_links_of_40_letters(self):
        kind = Kind(random_shape(random.Random(1), 40))
        self.assertEqual(40, len(plain_links(kind)))
        self.assertTrue(is_whole(wiring_of_kinds([~kind, kind], plain_links(kind))))

    def test_composed_with_plain_links(self):
        rng = random.Random(99)
        for _ in range(100):
            one, other = kinds_with_links(rng, 2)
            for links, word in standings(one, other):
                if word != "barred":
                    self.assertEqual(links, composed(one, one, other, plain_links(one), links))
                    self.assertEqual(links, composed(one, other, other, tuple(links), tuple(plain_links(other))))
        self.assert_new_list(composed, A, A, A, plain_links(A), plain_links(A))

    def test_composed_against_joining(self):
        count = 0
        rng = random.Random(90)
        for _ in range(250):
            one, middle, other = kinds_with_links(rng, 3)
            for there, word in standings(one, middle)[:4]:
                for onward, second in standings(middle, other)[:4]:
                    if "barred" not in (word, second):
                        count += 1
                        self.check(one, middle, other, there, onward, (word, second))
        self.assertGreater(count, 100)

    def check(self, one, middle, other, there, onward, words):
        row = [~one, middle, ~middle, other]
        counts = [len(kind.letters) for kind in row]
        links = there + [(first + counts[0] + counts[1], second + counts[0] + counts[1]) for first, second in onward]
        wiring = wiring_of_kinds(row, links)
        ends = list(itertools.accumulate(counts))
        roots = [root for root in wiring.roots if wiring.leaves_under(root)[0] in range(ends[0], ends[2])]
        self.assertEqual(2, len(roots))
        found = composed(one, middle, other, there, onward)
        self.assertEqual(sorted(found), found)
        outer = list(range(ends[0])) + list(range(ends[2], ends[3]))
        expected = [tuple(outer.index(leaf) for leaf in link) for link in trail_links(wiring, [tuple(roots)])]
        self.assertEqual(expected, sorted(tuple(sorted(link)) for link in found))
        # The composed links are links of the row again, and the joined wiring has them.
        wiring_again = wiring_of_kinds([~one, other], found)
        once = joined(wiring, [tuple(roots)])
        self.assertEqual((tuple(expected), wiring_again.nodes), (once.links, once.nodes))
        if words == ("whole", "whole"):
            self.assertTrue(is_whole(wiring_again))
        self.assertTrue(is_sound(wiring_again))

    def test_40_links(self):
        kind = Kind(random_shape(random.Random(2), 20))
        self.assertEqual(plain_links(kind), composed(kind, kind, kind, plain_links(kind), plain_links(kind)))


class ThereAndBackTests(unittest.TestCase, Cases):
    def by_words(self, one, other):
        """Try all lists there and all lists back, as the interface says."""
        found = []
        for there, word in standings(one, other):
            for back, back_word in standings(other, one):
                if "barred" in (word, back_word):
                    continue
                if composed(one, other, one, there, back) == plain_links(one):
                    if composed(other, one, other, back, there) == plain_links(other):
                        found.append((there, back))
        return found

    def test_ordinary_kinds(self):
        self.assertEqual([([(1, 0)], [(1, 0)])], there_and_back(A, A))
        self.assertEqual([([(2, 1), (3, 0)], [(2, 1), (3, 0)])], there_and_back(A & B, B & A))
        self.assertEqual([([(2, 0), (3, 1)], [(2, 0), (3, 1)]), ([(2, 1), (3, 0)], [(2, 1), (3, 0)])],
                         there_and_back(A | A, A | A))
        self.assertEqual([], there_and_back(A & B, A | B))
        self.assertEqual([], there_and_back(A, A & (B | ~B)))
        self.assertEqual([], there_and_back(A, (B | ~B) & A))
        self.assert_new_list(there_and_back, A | A, A | A)

    def test_against_the_words_of_the_interface(self):
        found = 0
        rng = random.Random(93)
        for _ in range(80):
            one, other = kinds_with_links(rng, 2)
            expected = self.by_words(one, other)
            found += len(expected)
            self.assertEqual(expected, there_and_back(one, other))
            self.assertIs(alike(one, other), expected != [])
        self.assertGreater(found, 10)

    def test_six_letters_each(self):
        for text, other, count in (("((a & a) & (a & (a & (a & a))))", "(((a & a) & (a & a)) & (a & a))", 720),
                                   ("((a | a') & ((a | a') & (a | a')))", "(((a' | a) & (a' | a)) & (a' | a))", 6),
                                   ("((a | a') & ((a | a') & (a | a')))", "((a & a') | ((a & a') | (a & a')))", 0)):
            self.assertEqual(count, len(there_and_back(parse_kind(text), parse_kind(other))))


if __name__ == "__main__":
    unittest.main()
