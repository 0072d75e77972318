"""Kinds as texts (point 88)."""

from comesapart.errors import ComesapartError
from comesapart.kinds import Kind

SIGNS = {"both": "&", "together": "|"}
WORDS = {"&": "both", "|": "together"}


class BadSign(ComesapartError):
    """The text does not go on as a written form does, from the character with this index on."""

    def __init__(self, sign):
        super().__init__(f"the character {sign} does not fit")
        self.sign = sign


def index_behind(text, at, signs):
    """Return the index behind the signs, which must stand there in the text."""
    for sign in signs:
        if text[at:at + 1] != sign:
            raise BadSign(at)
        at += 1
    return at


def index_behind_name(text, at):
    """Return the index behind the letters, at least one, that stand there in the text."""
    start = at
    while at < len(text) and "a" <= text[at] <= "z":
        at += 1
    if at == start:
        raise BadSign(at)
    return at


def format_kind(kind):
    """Return the written form of the kind."""
    return format_shape(kind.shape)


def format_shape(shape):
    """Return the written form of the kind with this shape."""
    word, first, second = shape
    if word == "letter":
        return first if second else first + "'"
    return "(" + format_shape(first) + " " + SIGNS[word] + " " + format_shape(second) + ")"


def parse_kind(text):
    """Return the kind with this written form."""
    # For each open bracket None, or the word and the left part of its node where they have been read.
    brackets = []
    at = 0
    while True:
        while text[at:at + 1] == "(":
            brackets.append(None)
            at += 1
        shape, at = read_letter(text, at)
        while brackets and brackets[-1] is not None:
            at = index_behind(text, at, ")")
            shape = brackets.pop() + (shape,)
        if not brackets:
            break
        word, at = read_word(text, at)
        brackets[-1] = (word, shape)
    if at < len(text):
        raise BadSign(at)
    return Kind(shape)


def read_letter(text, at):
    """Return the shape of the letter that stands there in the text, and the index behind it."""
    end = index_behind_name(text, at)
    if text[end:end + 1] == "'":
        return (("letter", text[at:end], False), end + 1)
    return (("letter", text[at:end], True), end)


def read_word(text, at):
    """Return the word for the sign of a node that stands there in the text, and the index behind it."""
    at = index_behind(text, at, " ")
    if text[at:at + 1] not in WORDS:
        raise BadSign(at)
    return (WORDS[text[at]], index_behind(text, at + 1, " "))
