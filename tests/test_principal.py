"""Point 93: principal kinds of programs."""

import random
import unittest

from helpers import PLAIN, random_program, small_programs

from comesapart.kinds import Kind, is_arrow
from comesapart.kindtext import format_kind, parse_kind
from comesapart.principal import principal_kind
from comesapart.programs import parse_program, redexes, step_at, worked


def filled(kind, table):
    """Put arrow kinds, {letter: arrow kind}, in the place of the letters of an arrow kind."""
    if isinstance(kind, tuple):
        return (filled(kind[0], table), filled(kind[1], table))
    return filled(table[kind], table) if kind in table else kind


def solved(equations):
    """Return the table of the most general solution; a kind is a letter (a number) or a tuple of two kinds."""
    table = {}
    while equations:
        one, other = [filled(kind, table) for kind in equations.pop()]
        if one == other:
            continue
        if isinstance(one, tuple) and isinstance(other, tuple):
            equations += list(zip(one, other))
        else:
            if isinstance(one, tuple):
                one, other = other, one
            table[one] = other
    return table


def kind_by_words(program):
    """Return the principal kind as a tuple of tuples, from an equation for each use."""
    equations, letters = [], iter(range(1000))

    def kind_of(part, names):
        if part[0] == "name":
            return names[part[1]]
        if part[0] == "fun":
            letter = next(letters)
            return (letter, kind_of(part[2], {**names, part[1]: letter}))
        result = next(letters)
        equations.append((kind_of(part[1], names), (kind_of(part[2], names), result)))
        return result

    kind = kind_of(program, {})
    return filled(kind, solved(equations))


def named(kind, names):
    """Return the Kind of a tuple of tuples, with letters named in the order of their first occurrence."""
    if isinstance(kind, tuple):
        left = named(kind[0], names)
        return left >> named(kind[1], names)
    return Kind.letter(names.setdefault(kind, PLAIN[len(names)]))


class PrincipalTests(unittest.TestCase):
    def test_example_of_the_document(self):
        self.assertEqual("((a & b') | (a' | b))", format_kind(principal_kind(parse_program("[f [x (f x)]]"))))

    def test_ordinary_programs(self):
        for text, kind in (("[x x]", "(a' | a)"), ("([x x] [y y])", "(a' | a)"),
                           ("[x [f (f x)]]", "(a' | ((a & b') | b))"),
                           ("[f (f [x x])]", "(((a' | a) & b') | b)"),
                           ("[f [g [x (f (g x))]]]", "((a & b') | ((c & a') | (c' | b)))"),
                           ("[g [f [x (f (g x))]]]", "((a & b') | ((b & c') | (a' | c)))"),
                           ("[f [y [x ((f x) y)]]]", "((a & (b & c')) | (b' | (a' | c)))")):
            self.assertEqual(kind, format_kind(principal_kind(parse_program(text))))

    def check(self, program):
        kind = principal_kind(program)
        self.assertEqual(named(kind_by_words(program), {}), kind)
        self.assertTrue(is_arrow(kind))
        # Each name stands twice in a principal kind, with both signs, and the first ones in order of the alphabet.
        names = list(dict.fromkeys(name for name, _ in kind.letters))
        self.assertEqual(list(PLAIN[:len(names)]), names)
        self.assertEqual(sorted((name, sign) for name in names for sign in (True, False)), sorted(kind.letters))
        return kind

    def test_all_small_programs(self):
        for program in small_programs(4):
            self.check(program)

    def test_programs_of_12_funs(self):
        rng = random.Random(93)
        letters = set()
        for _ in range(150):
            program = random_program(rng, 12)
            letters.add(len(self.check(program).letters))
        # The kind of the first name takes the kinds of the eleven others.
        self.assertEqual(24,
                         len(principal_kind(parse_program("[a [b [c [d [e [f [g [h [i [j [k [l (((((((((((a b) c) d) "
                                                              "e) f) g) h) i) j) k) l)]]]]]]]]]]]]")).letters))
        self.assertTrue(letters <= set(range(2, 25, 2)))

    def test_steps_do_not_change_it(self):
        rng = random.Random(94)
        count = 0
        for program in small_programs(3) + [random_program(rng, rng.randint(4, 12)) for _ in range(100)]:
            for position in redexes(program):
                count += 1
                self.assertEqual(principal_kind(program), principal_kind(step_at(program, position)))
            self.assertEqual(principal_kind(program), principal_kind(worked(program, [3, 1, 2])[0]))
        self.assertGreater(count, 150)

    def test_other_names_do_not_change_it(self):
        text = "[f [x (f [y (x y)])]]"
        kind = principal_kind(parse_program(text))
        self.assertEqual(parse_kind("(((a' | b) & c') | ((a & b') | c))"), kind)
        self.assertEqual(kind, principal_kind(parse_program("[zz [abcdefgh (zz [y (abcdefgh y)])]]")))


if __name__ == "__main__":
    unittest.main()
