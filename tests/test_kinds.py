"""Points 86 and 87: kinds, their opposites, arrow kinds, and kinds that are alike."""

import itertools
import random
import unittest

from helpers import Cases, random_shape

from comesapart.errors import TooLarge
from comesapart.kinds import BadName, Kind, alike, is_arrow
from comesapart.standing import all_links, there_and_back

A, B, C = Kind.letter("a"), Kind.letter("b"), Kind.letter("c")


def row_of(word, letters, left=True):
    """Return a kind of this number of letters x whose nodes lean to the left or to the right."""
    shape = ("letter", "x", True)
    for _ in range(letters - 1):
        shape = (word, shape, ("letter", "x", True)) if left else (word, ("letter", "x", True), shape)
    return shape


def changed_once(shape):
    """Return all shapes that arise when point 87 changes the shape at one place."""
    if shape[0] == "letter":
        return []
    word, first, second = shape
    found = [(word, second, first)]
    if first[0] == word:
        found.append((word, first[1], (word, first[2], second)))
    if second[0] == word:
        found.append((word, (word, first, second[1]), second[2]))
    found += [(word, part, second) for part in changed_once(first)]
    return found + [(word, first, part) for part in changed_once(second)]


def all_changed(shape):
    """Return all shapes that arise from the shape by such changes."""
    met, waiting = {shape}, [shape]
    while waiting:
        for other in changed_once(waiting.pop()):
            if other not in met:
                met.add(other)
                waiting.append(other)
    return met


def shuffled(rng, shape):
    """Exchange parts and move brackets at random at all depths."""
    for _ in range(60):
        shape = rng.choice(changed_once(shape) or [shape])
    return shape


class MakingTests(unittest.TestCase, Cases):
    def test_fields(self):
        shape = ("both", ("letter", "a", True), ("together", ("letter", "bc", False), ("letter", "a", False)))
        kind = Kind(shape)
        self.assertEqual(shape, kind.shape)
        self.assertEqual((("a", True), ("bc", False), ("a", False)), kind.letters)
        self.assertIs(tuple, kind.letters.__class__)
        self.assertIs(tuple, kind.letters[0].__class__)

    def test_letter(self):
        self.assertEqual(("letter", "abc", True), Kind.letter("abc").shape)
        self.assertEqual((("abc", True),), Kind.letter("abc").letters)

    def test_names(self):
        for name in ("a", "z", "abcdefgh", "zzzzzzzz"):
            self.assertEqual(((name, True),), Kind.letter(name).letters)
        for name in ("", "abcdefghi", "A", "aB", "a1", "1", "a ", " a", "a'", "a_b", "a&b", "(a)", "\u00e4", "a\n",
                     "\u0430", "a" * 100):
            self.assert_raises(BadName, {"name": name}, Kind.letter, name)
            self.assert_raises(BadName, {"name": name}, Kind, ("letter", name, False))

    def test_the_first_wrong_name_from_left_to_right(self):
        names = ["a", "X", "b", "", "c", "Y"]
        shape = ("letter", "d", True)
        for name in names[::-1]:
            shape = ("both", ("letter", name, True), shape)
        self.assert_raises(BadName, {"name": "X"}, Kind, shape)
        shape = ("letter", "d", True)
        for name in names:
            shape = ("together", shape, ("letter", name, False))
        self.assert_raises(BadName, {"name": "X"}, Kind, shape)
        shape = ("both", ("both", ("letter", "a", True), ("letter", "Z", True)), ("letter", "X", True))
        self.assert_raises(BadName, {"name": "Z"}, Kind, shape)

    def test_limit(self):
        self.assertEqual(40, Kind.MOST_LETTERS)
        for left in (True, False):
            self.assertEqual(40, len(Kind(row_of("both", 40, left)).letters))
            self.assert_raises(TooLarge, {"limit": 40}, Kind, row_of("both", 41, left))
            self.assert_raises(TooLarge, {"limit": 40}, Kind, row_of("together", 60, left))
        shape = ("letter", "", True)
        for _ in range(6):
            shape = ("both", shape, shape)
        self.assert_raises(TooLarge, {"limit": 40}, Kind, shape)
        deep = row_of("both", 60, True)
        self.assert_raises(TooLarge, {"limit": 40}, Kind, ("both", deep, deep))

    def test_equality(self):
        self.assertTrue(A & B == Kind(("both", ("letter", "a", True), ("letter", "b", True))))
        self.assertFalse(A & B == B & A)
        self.assertTrue(A & B != A | B)
        self.assertFalse(A == ~A)
        self.assertTrue(Kind(row_of("both", 40)) == Kind(row_of("both", 40)))
        self.assertTrue(Kind(row_of("both", 40)) != Kind(row_of("both", 40, False)))

    def test_a_kind_equals_no_other_value(self):
        self.assert_only_equal_to_its_class(A, A.shape, A.letters, "a")


class OperatorTests(unittest.TestCase, Cases):
    def test_operators(self):
        a, b = A.shape, B.shape
        not_a = ("letter", "a", False)
        self.assertEqual(not_a, (~A).shape)
        self.assertEqual(("both", a, b), (A & B).shape)
        self.assertEqual(("together", a, b), (A | B).shape)
        self.assertEqual(("together", not_a, b), (A >> B).shape)
        self.assertEqual(("both", not_a, ("together", ("letter", "b", False), a)), (~(A | (B & ~A))).shape)

    def test_other_values(self):
        for act in (lambda one, other: one & other, lambda one, other: one | other, lambda one, other: one >> other):
            self.assertRaises(TypeError, act, A, "a")
            self.assertRaises(TypeError, act, A, A.shape)

    def test_a_kind_never_changes(self):
        kind = A & ~B
        shape, letters = kind.shape, kind.letters
        for made in (~kind, kind & kind, kind | kind, kind >> kind):
            self.assertIsNot(kind, made)
        self.assertEqual((shape, letters), (kind.shape, kind.letters))

    def test_opposites(self):
        rng = random.Random(87)
        for _ in range(100):
            kind, other = [Kind(random_shape(rng, rng.randint(1, 20))) for _ in range(2)]
            self.assertEqual(kind, ~~kind)
            self.assertFalse(kind == ~kind)
            self.assertEqual(tuple((name, not positive) for name, positive in kind.letters), (~kind).letters)
            self.assertEqual(~kind | ~other, ~(kind & other))
            self.assertEqual(~kind & ~other, ~(kind | other))
            self.assertEqual(~kind | other, kind >> other)
            self.assertEqual(kind.letters + other.letters, (kind & other).letters)

    def test_limit(self):
        half, more = Kind(row_of("both", 20)), Kind(row_of("together", 21))
        whole = Kind(row_of("both", 40))
        self.assertEqual(whole.letters, (~~whole).letters)
        for act in (lambda one, other: one & other, lambda one, other: one | other, lambda one, other: one >> other):
            self.assertEqual(40, len(act(half, half).letters))
            for one, other in ((half, more), (more, half), (whole, A), (A, whole), (whole, whole)):
                self.assert_raises(TooLarge, {"limit": 40}, act, one, other)


class ArrowTests(unittest.TestCase):
    def test_arrow_kinds(self):
        for kind in (A, A >> B, (A >> B) >> C, A >> (B >> C), ((A >> A) >> (B >> C)) >> (A >> C)):
            self.assertTrue(is_arrow(kind))

    def test_other_kinds(self):
        for kind in (~A, A & B, A | B, ~A | ~B, ~A & B, ~(A >> B), (A & B) >> C, A >> (B & C), A >> ~B, ~A >> B,
                     (A | B) >> C, A >> (B | C), A >> ((B & C) >> A), ((A >> ~B) >> C)):
            self.assertFalse(is_arrow(kind))

    def test_against_all_arrow_kinds(self):
        arrows = {1: [A, B]}
        for count in (2, 3, 4):
            arrows[count] = [one >> other for left in range(1, count) for one in arrows[left]
                             for other in arrows[count - left]]
        known = [kind.shape for kinds in arrows.values() for kind in kinds]
        shapes = {1: [("letter", name, positive) for name in "ab" for positive in (True, False)]}
        for count in (2, 3):
            shapes[count] = [(word, one, other) for left in range(1, count) for one in shapes[left]
                             for other in shapes[count - left] for word in ("both", "together")]
        for group in shapes.values():
            for shape in group:
                self.assertIs(shape in known, is_arrow(Kind(shape)))
        self.assertTrue(all(is_arrow(kind) for kind in arrows[4]))

    def test_40_letters(self):
        kind = A
        for _ in range(39):
            kind = kind >> A if len(kind.letters) % 2 else A >> kind
        self.assertTrue(is_arrow(kind))
        self.assertFalse(is_arrow(~kind))


class AlikeTests(unittest.TestCase):
    def test_ordinary_kinds(self):
        for one, other in ((A, A), (A & B, B & A), (A | ~B, ~B | A), ((A & B) & C, A & (B & C)),
                           ((A & B) & C, (C & A) & B), (A | (B | C), (A | C) | B), ((A & B) | C, C | (B & A)),
                           (A & (B | (C & A)), ((A & C) | B) & A)):
            self.assertTrue(alike(one, other))
            self.assertTrue(alike(~other, ~one))

    def test_kinds_that_differ(self):
        for one, other in ((A, B), (A, ~A), (A & B, A | B), (A & B, A & ~B), ((A & B) | C, A & (B | C)),
                           ((A & B) & C, (A & B) | C), (A & A, A), ((A & A) & B, (A & B) & B),
                           (A & (B | C), (A & B) | (A & C)), (A | B, A | B | B), (Kind.letter("ab"), A & B),
                           (Kind.letter("both"), A & B), (Kind.letter("a") & Kind.letter("bc"),
                                                          Kind.letter("ab") & Kind.letter("c"))):
            self.assertFalse(alike(one, other))
            self.assertFalse(alike(other, one))

    def test_against_all_rearrangements(self):
        rng = random.Random(88)
        count = 0
        for _ in range(60):
            shape = random_shape(rng, rng.randint(1, 5))
            found = all_changed(shape)
            for other in [random_shape(rng, len(Kind(shape).letters)) for _ in range(30)] + list(found)[:10]:
                count += other in found
                self.assertIs(other in found, alike(Kind(shape), Kind(other)))
        self.assertGreater(count, 100)

    def test_large_kinds(self):
        rng = random.Random(89)
        for _ in range(20):
            shape = random_shape(rng, 40, names=("a", "b", "abcdefgh"))
            other = shuffled(rng, shape)
            self.assertTrue(alike(Kind(shape), Kind(other)))
            letters = list(Kind(other).letters)
            at = rng.randrange(40)
            for wrong in (("c", letters[at][1]), (letters[at][0], not letters[at][1])):
                counter = itertools.count()
                self.assertFalse(alike(Kind(shape), Kind(self.with_letter(other, at, wrong, counter))))

    def with_letter(self, shape, at, letter, counter):
        if shape[0] == "letter":
            return ("letter", *letter) if next(counter) == at else shape
        return (shape[0], *[self.with_letter(part, at, letter, counter) for part in shape[1:]])

    def test_very_many_rearrangements(self):
        for word in ("both", "together"):
            self.assertTrue(alike(Kind(row_of(word, 40)), Kind(row_of(word, 40, False))))
            self.assertFalse(alike(Kind(row_of(word, 40)), Kind(row_of(word, 39))))
        balanced = ("letter", "x", True)
        for word in ("both", "together", "both", "together", "both"):
            balanced = (word, balanced, balanced)
        other = ("letter", "x", True)
        for word in ("both", "together", "both", "together", "together"):
            other = (word, other, other)
        self.assertTrue(alike(Kind(balanced), Kind(balanced)))
        self.assertFalse(alike(Kind(balanced), Kind(other)))

    def test_kinds_that_are_alike_stand_for_one_another_there_and_back(self):
        rng = random.Random(90)
        found = 0
        for _ in range(150):
            shape = random_shape(rng, rng.randint(1, 5))
            other = random_shape(rng, rng.randint(1, 5)) if rng.random() < 0.5 else shuffled(rng, shape)
            self.assertIs(alike(Kind(shape), Kind(other)), there_and_back(Kind(shape), Kind(other)) != [])
            found += alike(Kind(shape), Kind(other))
            self.assertLess(0, len(all_links([~Kind(shape), Kind(shape)])))
        self.assertTrue(50 < found < 140)


if __name__ == "__main__":
    unittest.main()
