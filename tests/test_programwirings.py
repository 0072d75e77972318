"""Points 94 and 95: forced links, programs that are read from kinds, and applications."""

import itertools
import random
import unittest

from helpers import Cases, PLAIN, all_programs, random_program, small_programs
from test_principal import filled, kind_by_words, solved

from comesapart.errors import TooLarge
from comesapart.joining import joined
from comesapart.kinds import Kind, is_arrow
from comesapart.kindtext import format_kind, parse_kind
from comesapart.principal import principal_kind
from comesapart.programs import check_program, format_program, parse_program, plainly_named, redexes, worked
from comesapart.programwirings import NotAnArrow, NotBalanced, application, forced_links, program_of_kind
from comesapart.standing import all_links, wiring_of_kinds
from comesapart.wirings import Wiring
from comesapart.wiringwebs import is_sound, is_whole


def arrow_trees(leaves):
    """Yield all arrow kinds without names: True for a letter, or a tuple of two of them."""
    if leaves == 1:
        yield True
    for left in range(1, leaves):
        for one in arrow_trees(left):
            for other in arrow_trees(leaves - left):
                yield (one, other)


def signs_of_tree(tree, positive=True):
    if tree is True:
        return [positive]
    return signs_of_tree(tree[0], not positive) + signs_of_tree(tree[1], positive)


def kind_of_tree(tree, names):
    if tree is True:
        return Kind.letter(names.pop(0))
    left = kind_of_tree(tree[0], names)
    return left >> kind_of_tree(tree[1], names)


def balanced_kinds(names):
    """Yield all balanced arrow kinds with this number of names, which are in the order of their first occurrence."""
    for tree in arrow_trees(2 * names):
        signs = signs_of_tree(tree)
        leaves = [[leaf for leaf in range(2 * names) if signs[leaf] is sign] for sign in (True, False)]
        if len(leaves[0]) == names:
            for order in itertools.permutations(leaves[1]):
                pairs = sorted(sorted(pair) for pair in zip(leaves[0], order))
                found = [None] * (2 * names)
                for index, pair in enumerate(pairs):
                    found[pair[0]] = found[pair[1]] = PLAIN[index]
                yield kind_of_tree(tree, found)


def parted(program, prefix):
    """Return the program with other names."""
    if program[0] == "name":
        return ("name", prefix + program[1])
    if program[0] == "fun":
        return ("fun", prefix + program[1], parted(program[2], prefix))
    return ("use", parted(program[1], prefix), parted(program[2], prefix))


def with_other_letters(kind):
    """Return a kind of tuples of tuples with letters that no other program has."""
    if isinstance(kind, tuple):
        return (with_other_letters(kind[0]), with_other_letters(kind[1]))
    return kind + 10000


def normal_programs(most_funs):
    return [program for program in small_programs(most_funs) if redexes(program) == []]


class ForcedLinksTests(unittest.TestCase, Cases):
    def test_links(self):
        for text, links in (("(a' | a)", [(1, 0)]), ("(a | a')", [(0, 1)]), ("((a & b') | (a' | b))", [(0, 2), (3, 1)]),
                            ("(c & (xyz' | (c' & xyz)))", [(0, 2), (3, 1)])):
            self.assertEqual(links, forced_links(parse_kind(text)))
        self.assert_new_list(forced_links, parse_kind("(a' | a)"))

    def test_kinds_that_are_not_balanced(self):
        for text in ("a", "a'", "(a & a)", "(a' | a')", "(a | b')", "((a & a') | a)", "((a & a') | (a | a'))",
                     "((a & a') | (b | b))", "((a & a') | b')", "((a & b') | (a & b'))", "((a & a) | (a' & a'))"):
            self.assert_raises(NotBalanced, {}, forced_links, parse_kind(text))

    def test_they_are_the_only_links(self):
        for names in (1, 2, 3):
            for kind in list(balanced_kinds(names))[::3]:
                self.assertEqual([forced_links(kind)], all_links([kind]))

    def test_40_letters(self):
        names = [one + other for one in "abcde" for other in "abcd"]
        kind = Kind.letter(names[0]) | ~Kind.letter(names[0])
        for name in names[1:]:
            kind = (~Kind.letter(name) & kind) | Kind.letter(name)
        links = forced_links(kind)
        self.assertEqual(20, len(links))
        self.assertEqual(sorted(links), links)
        self.assertEqual(20, len(wiring_of_kinds([kind], links).links))
        self.assert_raises(NotBalanced, {}, forced_links, Kind(kind.shape[1]))


class ReadingTests(unittest.TestCase, Cases):
    def test_programs_that_are_read(self):
        for text, program in (("(a' | a)", "[a a]"), ("((a & b') | (a' | b))", "[a [b (a b)]]"),
                              ("(a' | ((a & b') | b))", "[a [b (b a)]]"), ("(((a' | a) & b') | b)", "[a (a [b b])]"),
                              ("((a & b') | ((c & a') | (c' | b)))", "[a [b [c (a (b c))]]]"),
                              ("((a & (b & c')) | (b' | (a' | c)))", "[a [b [c ((a c) b)]]]"),
                              ("(xyz' | xyz)", "[a a]")):
            self.assertEqual(program, format_program(program_of_kind(parse_kind(text))))

    def test_errors_in_their_order(self):
        for text in ("a'", "(a & b)", "(a | a')", "((a' | a) & b)", "((a & a) | b)", "(a' & a)", "((a' | b) | a)"):
            self.assert_raises(NotAnArrow, {}, program_of_kind, parse_kind(text))
        for text in ("a", "(a' | b)", "((a & a') | a)", "((a & a') | (a' | a))", "(a' | (b' | a))"):
            self.assertTrue(is_arrow(parse_kind(text)))
            self.assert_raises(NotBalanced, {}, program_of_kind, parse_kind(text))

    def test_kinds_from_which_no_program_is_read(self):
        # A name is needed outside of its fun, or a name that is bound is not used.
        for text in ("(((a' | b) & b') | a)", "(((a' | (c' | b)) & (c & b')) | a)", "((a & a') | (b' | b))",
                     "(b' | ((a & a') | b))", "(b' | (((a' | c) & (a & c')) | b))"):
            kind = parse_kind(text)
            self.assertTrue(is_arrow(kind), text)
            self.assertIsNone(program_of_kind(kind), text)

    def test_all_kinds_with_few_names(self):
        for names in (1, 2, 3, 4):
            known = {}
            for program in all_programs(names):
                if redexes(program) == []:
                    known[format_kind(principal_kind(program))] = program
            kinds = list(balanced_kinds(names)) if names < 4 else list(balanced_kinds(names))[::7]
            read = 0
            for kind in kinds:
                program = program_of_kind(kind)
                self.assertEqual(known.get(format_kind(kind)), program)
                # A program is read exactly if the forced links are whole.
                self.assertIs(is_whole(wiring_of_kinds([kind], forced_links(kind))), program is not None)
                read += program is not None
            if names < 4:
                self.assertEqual(len(known), read)

    def test_other_names_of_the_letters_do_not_matter(self):
        kind = principal_kind(parse_program("[f [x (f [y (x y)])]]"))
        text = format_kind(kind).replace("a", "zz").replace("b", "a").replace("c", "yyy")
        self.assertEqual(program_of_kind(kind), program_of_kind(parse_kind(text)))

    def test_programs_and_their_principal_kinds(self):
        rng = random.Random(94)
        for program in small_programs(4)[::2] + [random_program(rng, rng.randint(5, 12)) for _ in range(100)]:
            normal = plainly_named(worked(program, [])[0])
            self.assertEqual(normal, program_of_kind(principal_kind(program)))

    def test_programs_of_20_funs(self):
        # The kind of a name that takes 19 names, and then those 19 names.
        letters = [Kind.letter("l" + PLAIN[index]) for index in range(20)]
        head = letters[19]
        for letter in letters[18::-1]:
            head = letter >> head
        kind = letters[19]
        for letter in letters[:19]:
            kind = letter >> kind
        program = program_of_kind(head >> kind)
        self.assert_raises(TooLarge, {"limit": 12}, check_program, program)
        names = list("tsrqponmlkjihgfedcb")
        body = "a"
        for name in names:
            body = "(" + body + " " + name + ")"
        text = "".join("[" + name + " " for name in PLAIN[:20]) + body + "]" * 20
        self.assertEqual(text, format_program(program))


class ApplicationTests(unittest.TestCase, Cases):
    def copies(self, general, kind):
        """Return {name: the shapes in the place of its letters} for a kind that arises from the general one."""
        found = {}

        def compare(shape, part, start):
            if shape[0] == "letter":
                count = len(Kind(part).letters)
                found.setdefault(shape[1], []).append((shape[2], part, range(start, start + count)))
                return start + count
            self.assertEqual(shape[0], part[0])
            return compare(shape[2], part[2], compare(shape[1], part[1], start))

        compare(general.shape, kind.shape, 0)
        return found

    def check_arises(self, general, kind):
        """Check that the kind arises from the general one; return the pairs of leaves at the same place of copies."""
        pairs = []
        for items in self.copies(general, kind).values():
            (sign, part, leaves), (far_sign, far_part, far_leaves) = items
            self.assertIsNot(sign, far_sign)
            self.assertEqual(Kind(part), ~Kind(far_part))
            pairs += list(zip(leaves, far_leaves))
        return pairs

    def check(self, function, argument):
        row, links, cut = application(function, argument)
        use = ("use", function, argument)
        result = principal_kind(use)
        self.assertIs(list, row.__class__)
        self.assertEqual(3, len(row))
        self.assertEqual(result, row[2])
        taken = Kind(row[1].shape[1])
        self.assertEqual([~taken | result, taken & ~result, result], row)
        self.assertLessEqual({name for name, _ in taken.letters}, {name for name, _ in result.letters})
        counts = [len(kind.letters) for kind in row]
        pairs = self.check_arises(principal_kind(function), row[0])
        pairs += [(one + counts[0], other + counts[0]) for one, other in
                  self.check_arises(principal_kind(argument), taken)]
        pairs += [(2 * counts[0] - counts[2] + leaf, 2 * counts[0] + leaf) for leaf in range(counts[2])]
        self.assertEqual(sorted(links), links)
        self.assertEqual(sorted(sorted(pair) for pair in pairs), sorted(sorted(link) for link in links))
        letters = [letter for kind in row for letter in kind.letters]
        for first, second in links:
            self.assertEqual((letters[second][0], True, False),
                             (letters[first][0], letters[first][1], letters[second][1]))
        self.assertEqual((sum(counts) + counts[0] - 2, sum(counts) + 2 * counts[0] - 3), cut)
        self.assertIs(tuple, cut.__class__)
        if len(links) <= 40:
            wiring = wiring_of_kinds(row, links)
            self.assertTrue(is_sound(wiring))
            self.assertEqual([wiring.leaves_under(root) for root in cut],
                             [list(range(counts[0])), list(range(counts[0], 2 * counts[0]))])
            # Joining gives the forced links of the kind of the use, from which its normal program is read.
            forced = sorted(tuple(sorted(link)) for link in forced_links(result))
            self.assertEqual(Wiring(forced, wiring_of_kinds([result], forced_links(result)).nodes),
                             joined(wiring, [cut]))
            self.assertTrue(is_whole(joined(wiring, [cut])))
        self.assertEqual(plainly_named(worked(use, [])[0]), program_of_kind(result))
        return len(links)

    def test_an_ordinary_application(self):
        row, links, cut = application(parse_program("[f [x (f x)]]"), parse_program("[y y]"))
        self.assertEqual(["((a & a') | (a' | a))", "((a' | a) & (a & a'))", "(a' | a)"],
                         [format_kind(kind) for kind in row])
        self.assertEqual([(0, 2), (3, 1), (5, 4), (6, 8), (9, 7)], links)
        self.assertEqual((12, 15), cut)

    def test_all_small_applications(self):
        programs = normal_programs(3)
        count = 0
        for function, argument in itertools.product(programs, repeat=2):
            count += 1
            self.check(parted(function, "f"), parted(argument, "g"))
        self.assertGreater(count, 200)

    def test_larger_applications(self):
        rng = random.Random(95)
        most = 0
        refused = 0
        for _ in range(200):
            funs = rng.randint(1, 11)
            function, argument = random_program(rng, funs), random_program(rng, rng.randint(1, 12 - funs))
            function = parted(worked(function, [])[0], "f")
            argument = parted(worked(argument, [])[0], "g")
            if self.count_letters(function, argument) > 40:
                refused += 1
                self.assert_raises(TooLarge, {"limit": 40}, application, function, argument)
            else:
                most = max(most, self.check(function, argument))
        self.assertGreater(refused, 0)
        self.assertGreater(most, 20)

    def count_letters(self, function, argument):
        """Return the number of letters of ~A | B, found from an equation."""
        taken, result = kind_by_words(function)
        kind = (taken, result)
        table = solved([(taken, with_other_letters(kind_by_words(argument)))])
        return str(filled(kind, table)).count(",") + 1

    def test_more_than_40_links(self):
        for text, links in (("[fa (fa [fb fb])] [ga (ga [gb [gc [gd [ge ((gd gb) (gc ge))]]]])]", 36),
                            ("[fa ((fa [fb [fc [fd [fe [ff [fg ((fg ff) (((fe fb) fc) fd))]]]]]]) [fh fh])] [ga ga]",
                             46)):
            _, function, argument = parse_program("(" + text + ")")
            self.assertEqual(links, self.check(function, argument))

    def test_limit(self):
        _, function, argument = parse_program(
            "([fa (((fa [fb fb]) [fc fc]) [fd fd])] [ga ((ga [gb gb]) [gc gc])])")
        self.assert_raises(TooLarge, {"limit": 40}, application, function, argument)
        _, function, argument = parse_program(
            "([fa ((fa [fb [fc [fd [fe [ff [fg ((fg ff) (((fe fb) fc) fd))]]]]]]) [fh fh])] [ga ga])")
        self.assertEqual(40, len(application(function, argument)[0][0].letters))

    def test_new_lists(self):
        function, argument = parse_program("[f [x (f x)]]"), parse_program("[y y]")
        row, links, cut = application(function, argument)
        row.append("changed")
        links.append("changed")
        again = application(function, argument)
        self.assertEqual((row[:3], links[:-1], cut), again)


if __name__ == "__main__":
    unittest.main()
