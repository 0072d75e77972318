"""Points 91 and 92: programs, their texts, redexes and steps."""

import itertools
import random
import re
import unittest

from helpers import Cases, PLAIN, all_programs, bad_sign_by_words, random_program, small_programs

from comesapart.errors import TooLarge
from comesapart.kinds import BadName
from comesapart.kindtext import BadSign
from comesapart.programs import (BoundTwice, NotARedex, NotUsed, UnknownName, UsedTwice, check_program, format_program,
                                 parse_program, plainly_named, redexes, step_at, worked)

X, Y = ("name", "x"), ("name", "y")
SAME = ("fun", "x", X)


def fault_by_words(program):
    """Return the first error of the program in the words of point 91: its class and its name, or None."""
    bound, used = [], []

    def is_name(name):
        return 1 <= len(name) <= 8 and all(sign in PLAIN for sign in name)

    def read(part, around):
        if part[0] == "name":
            if not is_name(part[1]):
                return (BadName, part[1])
            if part[1] not in around:
                return (UnknownName, part[1])
            if part[1] in used:
                return (UsedTwice, part[1])
            used.append(part[1])
            return None
        if part[0] == "use":
            return read(part[1], around) or read(part[2], around)
        if not is_name(part[1]):
            return (BadName, part[1])
        if part[1] in bound:
            return (BoundTwice, part[1])
        bound.append(part[1])
        return read(part[2], around + [part[1]]) or (None if part[1] in used else (NotUsed, part[1]))

    return read(program, [])


def ends_of_forms(text, at):
    """Return the ends of all written forms that begin at the index, and whether a form goes on behind the text."""
    ends, open_end = set(), at == len(text)
    end = at
    while end < len(text) and text[end] in PLAIN:
        end += 1
        ends.add(end)
    starts = set()
    if text[at:at + 1] == "(":
        lefts, open_end = ends_of_forms(text, at + 1)
        open_end = open_end or len(text) in lefts
        starts = lefts
    if text[at:at + 1] == "[":
        starts = {end for end in range(at + 2, len(text)) if all(sign in PLAIN for sign in text[at + 1:end])}
        open_end = all(sign in PLAIN for sign in text[at + 1:])
    for start in starts:
        if text[start:start + 1] == " ":
            rights, right_open = ends_of_forms(text, start + 1)
            open_end = open_end or right_open or len(text) in rights
            close = ")" if text[at] == "(" else "]"
            ends |= {right + 1 for right in rights if text[right:right + 1] == close}
    return ends, open_end


def changed_parts(program, made):
    """Yield the programs in which one part is replaced by one of the made ones."""
    yield from made
    if program[0] == "fun":
        for part in changed_parts(program[2], made):
            yield ("fun", program[1], part)
        for name in ("x", "a", "", "A"):
            yield ("fun", name, program[2])
    if program[0] == "use":
        for part in changed_parts(program[1], made):
            yield ("use", part, program[2])
        for part in changed_parts(program[2], made):
            yield ("use", program[1], part)


def part_at(program, position):
    for turn in position:
        program = program[1 + turn] if program[0] == "use" else program[2]
    return program


class CheckTests(unittest.TestCase, Cases):
    def check(self, program):
        expected = fault_by_words(program)
        if expected is None:
            self.assertIsNone(check_program(program))
        else:
            self.assert_raises(expected[0], {"name": expected[1]}, check_program, program)
        return expected

    def test_programs_that_are_accepted(self):
        for program in small_programs(3):
            self.assertIsNone(check_program(program))
        rng = random.Random(91)
        for _ in range(100):
            self.assertIsNone(check_program(random_program(rng, rng.randint(1, 12))))

    def test_each_error(self):
        for error, name, program in (
                (BadName, "", ("fun", "", X)), (BadName, "X", ("name", "X")),
                (BadName, "abcdefghi", ("name", "abcdefghi")),
                (BadName, "x1", ("fun", "x1", ("name", "x1"))), (BadName, "a b", ("fun", "x", ("name", "a b"))),
                (BoundTwice, "x", ("fun", "x", ("fun", "x", X))), (BoundTwice, "x", ("use", SAME, SAME)),
                (BoundTwice, "x", ("use", SAME, ("fun", "x", Y))), (UnknownName, "x", X),
                (UnknownName, "y", ("fun", "x", Y)),
                (UnknownName, "x", ("use", SAME, X)), (UnknownName, "x", ("use", X, SAME)),
                (UsedTwice, "x", ("fun", "x", ("use", X, X))), (NotUsed, "x", ("fun", "x", ("fun", "y", Y))),
                (NotUsed, "y", ("fun", "x", ("fun", "y", X))),
                (NotUsed, "y", ("fun", "x", ("use", ("fun", "y", X), X)))):
            self.assertEqual((error, name), self.check(program))

    def test_the_first_error_in_reading_order(self):
        # A name that is bound outside of this place, was used before, and is used where no fun binds it.
        for error, name, program in (
                (UnknownName, "x", ("use", SAME, ("use", X, X))), (BadName, "", ("fun", "x", ("use", ("name", ""), X))),
                (UsedTwice, "x", ("fun", "x", ("use", ("use", X, X), ("name", "")))),
                (BoundTwice, "x", ("fun", "x", ("fun", "x", ("name", "")))),
                (UnknownName, "y", ("fun", "x", ("use", Y, ("fun", "y", Y)))),
                (NotUsed, "y", ("use", ("fun", "x", ("use", X, ("fun", "y", ("fun", "z", ("name", "z"))))),
                                ("name", ""))),
                (UnknownName, "z", ("fun", "x", ("fun", "y", ("name", "z"))))):
            self.assertEqual((error, name), self.check(program))

    def test_each_fault_at_each_place_of_small_programs(self):
        made = [X, ("name", "a"), ("name", "b"), ("name", "A"), ("name", ""), SAME, ("fun", "b", ("name", "b")),
                ("fun", "x", ("name", "a"))]
        met = set()
        for program in small_programs(3):
            for changed in changed_parts(program, made):
                met.add((self.check(changed) or (None,))[0])
        self.assertEqual({None, BadName, BoundTwice, UnknownName, UsedTwice, NotUsed}, met)

    def test_the_same_object_twice(self):
        for part in (X, SAME, ("fun", "y", Y)):
            self.check(("use", part, part))
            self.check(("fun", "x", ("use", part, part)))
        name = ("name", "y")
        self.assertEqual((UsedTwice, "y"), self.check(("fun", "y", ("use", name, name))))

    def test_limit(self):
        def nested(count):
            program = ("name", "x")
            for index in range(1, count):
                program = ("use", program, ("fun", "n" + PLAIN[index], ("name", "n" + PLAIN[index])))
            return ("fun", "x", program)

        self.assertIsNone(check_program(nested(12)))
        self.assert_raises(TooLarge, {"limit": 12}, check_program, nested(13))
        self.assert_raises(TooLarge, {"limit": 12}, check_program, ("use", ("name", ""), nested(13)))
        twelve = ("fun", "", SAME)
        for _ in range(10):
            twelve = ("use", twelve, SAME)
        self.assert_raises(BadName, {"name": ""}, check_program, twelve)
        self.assert_raises(TooLarge, {"limit": 12}, check_program, ("use", twelve, SAME))

    def test_large_programs(self):
        many = ("name", "x")
        for _ in range(9):
            many = ("use", many, many)
        self.assert_raises(UsedTwice, {"name": "x"}, check_program, ("fun", "x", many))
        self.assert_raises(UnknownName, {"name": "x"}, check_program, many)
        funs = SAME
        for _ in range(8):
            funs = ("use", funs, funs)
        self.assert_raises(TooLarge, {"limit": 12}, check_program, funs)
        deep = SAME
        for _ in range(60):
            deep = ("fun", "x", deep)
        self.assert_raises(TooLarge, {"limit": 12}, check_program, deep)
        deep = ("name", "x")
        for _ in range(60):
            deep = ("use", deep, ("name", "y"))
        self.assert_raises(UnknownName, {"name": "y"}, check_program, ("fun", "x", deep))


class TextTests(unittest.TestCase, Cases):
    def check_bad(self, sign, text):
        self.assert_raises(BadSign, {"sign": sign}, parse_program, text)

    def test_written_forms(self):
        for text, program in (("[x x]", SAME), ("[f [x (f x)]]", ("fun", "f", ("fun", "x", ("use", ("name", "f"), X)))),
                              ("([x x] [y y])", ("use", SAME, ("fun", "y", Y))),
                              ("[abcdefgh abcdefgh]", ("fun", "abcdefgh", ("name", "abcdefgh")))):
            self.assertEqual(text, format_program(program))
            self.assertEqual(program, parse_program(text))

    def test_each_text_is_read_back(self):
        rng = random.Random(92)
        for program in small_programs(3) + [random_program(rng, 12) for _ in range(50)]:
            self.assertEqual(program, parse_program(format_program(program)))

    def test_bad_signs(self):
        for sign, text in ((0, ""), (0, " "), (0, ")"), (0, "]"), (0, "X"), (0, "'"), (1, "["), (1, "[ x x]"),
                           (1, "[]"), (1, "[("), (2, "[x"), (2, "[x]"), (2, "[x("), (3, "[x "), (3, "[x  x]"),
                           (3, "[x ]"),
                           (4, "[x x"), (4, "[x x)"), (4, "[x x "), (4, "[x x x]"), (5, "[x x]]"), (5, "[x x] "),
                           (5, "[x x]x"), (1, "("), (1, "( x x)"), (1, "()"), (2, "(x"), (2, "(x)"), (2, "(x("),
                           (3, "(x "), (3, "(x )"), (4, "(x x"), (4, "(x x]"), (4, "(x x x)"), (5, "(x x)("), (1, "x'"),
                           (1, "x "), (1, "x(")):
            self.check_bad(sign, text)
            self.assertEqual(sign, bad_sign_by_words(ends_of_forms, text))

    def test_all_texts_up_to_some_length(self):
        right = 0
        for length in range(7):
            for signs in itertools.product("x[]( )", repeat=length):
                right += self.check_text("".join(signs))
        # x to xxxxxx; [x x], [xx x], [x xx] and the same with round brackets.
        self.assertEqual(6 + 3 + 3, right)
        for length in range(6):
            for middle in itertools.product("x[]( )", repeat=length):
                self.check_text("[y (y " + "".join(middle))
        for other in ("'", "&", "X", "1", "\n", "\u00e4"):
            for text in ("", "x", "[", "[x", "[x ", "[x x", "(", "(x", "(x ", "(x x"):
                self.check_text(text + other)

    def check_text(self, text):
        sign = bad_sign_by_words(ends_of_forms, text)
        if sign is not None:
            self.check_bad(sign, text)
            return False
        try:
            self.assertEqual(text, format_program(parse_program(text)))
        except (BadName, UnknownName, BoundTwice, UsedTwice, NotUsed):
            pass
        return True

    def test_errors_of_check_program(self):
        for error, name, text in ((UnknownName, "x", "x"), (UsedTwice, "x", "[x (x x)]"),
                                  (BoundTwice, "x", "([x x] [x x])"),
                                  (NotUsed, "x", "[x [y y]]"), (BadName, "abcdefghi", "[abcdefghi abcdefghi]"),
                                  (BadName, "z" * 50, "[x (x " + "z" * 50 + ")]")):
            self.assert_raises(error, {"name": name}, parse_program, text)
        self.check_bad(9, "[x (x x)]]")
        self.check_bad(4, "[x y)")
        self.assert_raises(TooLarge, {"limit": 12}, parse_program, "[x " * 13 + "x" + "]" * 13)
        self.check_bad(13 * 3 + 1 + 12, "[x " * 13 + "x" + "]" * 12)

    def test_deep_brackets(self):
        for depth in (60, 61, 100):
            self.check_bad(depth, "(" * depth)
            self.check_bad(3 * depth + 1, "[x " * depth + "x")
            self.assert_raises(UnknownName, {"name": "x"}, parse_program, "(" * depth + "x" + " x)" * depth)
            self.assert_raises(UnknownName, {"name": "x"}, parse_program, "(x " * depth + "x" + ")" * depth)


class StepTests(unittest.TestCase, Cases):
    def test_redexes(self):
        self.assertEqual([], redexes(SAME))
        self.assertEqual([()], redexes(("use", SAME, ("fun", "y", Y))))
        program = parse_program("([f ([x x] f)] ([y y] [z ([w w] z)]))")
        self.assertEqual([(), (0, 0), (1,), (1, 1, 0)], redexes(program))
        self.assert_new_list(redexes, program)

    def test_redexes_against_all_positions(self):
        for program in small_programs(3):
            found = [position for length in range(6) for position in itertools.product((0, 1), repeat=length)
                     if self.is_redex_at(program, position)]
            self.assertEqual(sorted(found), redexes(program))
            for length in range(5):
                for position in itertools.product((0, 1), repeat=length):
                    if position not in found:
                        self.assert_raises(NotARedex, {"position": position}, step_at, program, position)

    def is_redex_at(self, program, position):
        for turn in position:
            if program[0] == "name" or (program[0] == "fun" and turn == 1):
                return False
            program = program[1 + turn] if program[0] == "use" else program[2]
        return program[0] == "use" and program[1][0] == "fun"

    def test_step_at(self):
        program = parse_program("([f ([x x] f)] ([y y] [z z]))")
        self.assertEqual(parse_program("([x x] ([y y] [z z]))"), step_at(program, ()))
        self.assertEqual(parse_program("([f f] ([y y] [z z]))"), step_at(program, (0, 0)))
        self.assertEqual(parse_program("([f ([x x] f)] [z z])"), step_at(program, (1,)))
        self.assertEqual(parse_program("[z [g (g z)]]"), step_at(parse_program("[z ([f [g (g f)]] z)]"), (0,)))

    def test_positions_without_a_redex(self):
        program = parse_program("([f ([x x] f)] ([y y] [z z]))")
        for position in ((0,), (1, 0), (1, 1), (0, 1), (0, 0, 0), (0, 0, 1), (2,), (-1,), (0, 0, 0, 0, 0), (1, 1, 1),
                         (0, 0, 2)):
            self.assert_raises(NotARedex, {"position": position}, step_at, program, position)
        self.assert_raises(NotARedex, {"position": ()}, step_at, SAME, ())

    def test_a_step_puts_the_argument_in_the_place_of_the_name(self):
        rng = random.Random(94)
        for _ in range(200):
            program = random_program(rng, rng.randint(2, 12))
            for position in redexes(program):
                after = step_at(program, position)
                self.assertIsNone(check_program(after))
                _, (_, name, body), argument = part_at(program, position)
                text, inner = format_program(body), format_program(argument)
                self.assertEqual(1, len(re.findall(rf"\b{name}\b", text)))
                put_in = re.sub(rf"\b{name}\b", inner, text)
                self.assertEqual(put_in, format_program(part_at(after, position)))
                redex = format_program(part_at(program, position))
                self.assertEqual(format_program(program).replace(redex, put_in), format_program(after))

    def all_worked(self, program, steps=0):
        if not redexes(program):
            return {(program, steps)}
        return set().union(*[self.all_worked(step_at(program, position), steps + 1) for position in redexes(program)])

    def test_every_order_of_steps(self):
        rng = random.Random(95)
        programs = small_programs(4)[::3] + [random_program(rng, 8) for _ in range(60)]
        for program in programs:
            found = self.all_worked(program)
            self.assertEqual(1, len(found))
            self.assertEqual(found, {worked(program, [])})
            picks = [rng.randint(0, 30) for _ in range(rng.randint(0, 9))]
            self.assertEqual(found, {worked(program, picks)})

    def test_picks(self):
        program = parse_program("([f ([x x] f)] ([y y] [z ([w w] z)]))")
        end = (parse_program("[z z]"), 4)
        for picks in ([], [0], [1, 2, 3], [10 ** 20] * 9, (3, 2, 1, 0), [4, 8]):
            self.assertEqual(end, worked(program, picks))
        self.assertEqual((SAME, 0), worked(SAME, [1, 2]))
        self.assertIs(tuple, worked(SAME, []).__class__)

    def test_plainly_named(self):
        program = parse_program("([f [xy (xy f)]] [b ([a a] b)])")
        self.assertEqual(parse_program("([a [b (b a)]] [c ([d d] c)])"), plainly_named(program))
        for program in itertools.chain(small_programs(3), list(all_programs(4))[::50]):
            self.assertEqual(program, plainly_named(program))
        twelve = "([n [m [b [a ((((a b) m) n) [z [y (y z)]])]]]] [e [d [c ((c d) e)]]])"
        named = plainly_named(parse_program(twelve))
        self.assertEqual("([a [b [c [d ((((d c) b) a) [e [f (f e)]])]]]] [g [h [i ((i h) g)]]])", format_program(named))
        rng = random.Random(96)
        named = format_program(plainly_named(random_program(rng, 12)))
        self.assertEqual(list("abcdefghijkl"), [named[at + 1] for at in range(len(named)) if named[at] == "["])


if __name__ == "__main__":
    unittest.main()
