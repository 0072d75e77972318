"""Point 88: texts of kinds."""

import itertools
import random
import unittest

from helpers import Cases, bad_sign_by_words, random_shape

from comesapart.errors import TooLarge
from comesapart.kinds import BadName, Kind
from comesapart.kindtext import BadSign, format_kind, parse_kind

A, B, C = Kind.letter("a"), Kind.letter("b"), Kind.letter("c")


def ends_of_forms(text, at):
    """Return the ends of all written forms that begin at the index, and whether a form goes on behind the text."""
    ends, open_end = set(), at == len(text)
    end = at
    while end < len(text) and text[end] in "abcdefghijklmnopqrstuvwxyz":
        end += 1
        ends.add(end)
        if text[end:end + 1] == "'":
            ends.add(end + 1)
    if text[at:at + 1] == "(":
        lefts, left_open = ends_of_forms(text, at + 1)
        open_end = open_end or left_open
        for left in lefts:
            for sign in (" & ", " | "):
                there = text[left:left + 3]
                if there == sign:
                    rights, right_open = ends_of_forms(text, left + 3)
                    open_end = open_end or right_open or len(text) in rights
                    ends |= {right + 1 for right in rights if text[right:right + 1] == ")"}
                elif sign.startswith(there) and left + len(there) == len(text):
                    open_end = True
    return ends, open_end


class FormatTests(unittest.TestCase):
    def test_written_forms(self):
        for kind, text in ((A, "a"), (~A, "a'"), (A & B, "(a & b)"), (A | ~B, "(a | b')"), (A >> B, "(a' | b)"),
                           ((A & B) | C, "((a & b) | c)"), (A & (B | ~C), "(a & (b | c'))"),
                           (Kind.letter("abcdefgh"), "abcdefgh")):
            self.assertEqual(text, format_kind(kind))
            self.assertEqual(kind, parse_kind(text))

    def test_each_text_is_read_back(self):
        rng = random.Random(88)
        for letters in list(range(1, 20)) * 5 + [40] * 10:
            kind = Kind(random_shape(rng, letters, names=("a", "z", "abcdefgh", "xy")))
            self.assertEqual(kind, parse_kind(format_kind(kind)))


class ParseTests(unittest.TestCase, Cases):
    def check_bad(self, sign, text):
        self.assert_raises(BadSign, {"sign": sign}, parse_kind, text)

    def test_example_of_the_document(self):
        self.check_bad(8, "(ab' & c")

    def test_bad_signs(self):
        for sign, text in ((0, ""), (0, " "), (0, " a"), (0, "'"), (0, "A"), (0, ")"), (0, "&"), (0, "1"), (0, "\n"),
                           (1, "a "), (1, "a)"), (1, "aB"), (1, "a&b"), (2, "a''"), (2, "a'b"), (2, "a' "), (1, "("),
                           (1, "()"), (1, "( a & b)"), (2, "(a"), (2, "(a)"), (2, "(a&b)"), (3, "(a'"),
                           (3, "(a b)"), (3, "(a "), (4, "(a &"), (4, "(a &b)"), (5, "(a & "), (5, "(a &  b)"),
                           (6, "(a & b"), (6, "(a & b "), (6, "(a & b & c)"), (7, "(a & b)c"), (7, "(a & b)'"),
                           (7, "(a & b) "), (7, "(a & b))"), (3, "(a + b)"), (4, "(a && b)"), (6, "(a & b| c)"),
                           (5, "(a | &)"), (13, "((a & b) | c))"), (12, "((a & b) | c ")):
            self.check_bad(sign, text)
            self.assertEqual(sign, bad_sign_by_words(ends_of_forms, text))

    def test_other_signs(self):
        for other in ("\u00e4", "\u0430", "A", "_", "0", "\t", "-", "{", "`"):
            self.check_bad(0, other)
            self.check_bad(1, "a" + other)
            self.check_bad(3, "(a " + other)
            self.check_bad(5, "(a & " + other)

    def test_all_texts_up_to_some_length(self):
        right = 0
        for length in range(7):
            for signs in itertools.product("a'( &)", repeat=length):
                right += self.check_text("".join(signs))
        # The letters a and aa .. and these with a sign behind them.
        self.assertEqual(6 + 5, right)
        for length in range(5):
            for middle in itertools.product("b' &|)(", repeat=length):
                self.check_text("(a & " + "".join(middle))
                self.check_text("((a | b') " + "".join(middle))

    def check_text(self, text):
        sign = bad_sign_by_words(ends_of_forms, text)
        if sign is None:
            self.assertEqual(text, format_kind(parse_kind(text)))
        else:
            self.check_bad(sign, text)
        return sign is None

    def test_written_forms_with_one_change(self):
        rng = random.Random(89)
        for _ in range(1500):
            text = format_kind(Kind(random_shape(rng, rng.randint(1, 6))))
            at = rng.randrange(len(text) + 1)
            sign = rng.choice("ab'(&|) Z")
            self.check_text(rng.choice([text[:at] + sign + text[at:], text[:at] + text[at + 1:], text[:at],
                                        text[:at] + sign + text[at + 1:]]))

    def test_names_of_more_than_8_letters(self):
        self.assert_raises(BadName, {"name": "abcdefghi"}, parse_kind, "abcdefghi")
        self.assert_raises(BadName, {"name": "z" * 200}, parse_kind, "(a | " + "z" * 200 + "')")
        self.assert_raises(BadName, {"name": "bbbbbbbbb"}, parse_kind, "((a & bbbbbbbbb) | ccccccccc)")
        self.check_bad(17, "(a & bbbbbbbbbbbb ")

    def test_letters_beyond_the_limit(self):
        text = "a"
        for _ in range(39):
            text = "(" + text + " & a)"
        self.assertEqual(40, len(parse_kind(text).letters))
        self.assert_raises(TooLarge, {"limit": 40}, parse_kind, "(" + text + " | a)")
        self.assert_raises(TooLarge, {"limit": 40}, parse_kind, "(" + text + " | abcdefghi)")
        self.check_bad(len(text) + 5, "(" + text + " | a")
        full = "a"
        for _ in range(9):
            full = "(" + full + " | " + full + ")"
        self.assert_raises(TooLarge, {"limit": 40}, parse_kind, full)

    def test_deep_brackets(self):
        for depth in (59, 60, 61, 100):
            text = "(" * depth + "a" + " & b)" * depth
            self.assert_raises(TooLarge, {"limit": 40}, parse_kind, text)
            self.check_bad(len(text) - 1, text[:-1])
            self.check_bad(depth, "(" * depth)
            text = "(a | " * depth + "b" + ")" * depth
            self.assert_raises(TooLarge, {"limit": 40}, parse_kind, text)
            self.check_bad(len(text), text + ")")
        for depth in (1, 20, 39):
            self.assertEqual(depth + 1, len(parse_kind("(" * depth + "a" + " & b)" * depth).letters))
            self.assertEqual(depth + 1, len(parse_kind("(a | " * depth + "b'" + ")" * depth).letters))


if __name__ == "__main__":
    unittest.main()
