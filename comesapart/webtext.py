"""Webs as texts (points 14 and 15)."""

from comesapart.errors import BadLine, BadSides, UnknownPlace, UnknownSide
from comesapart.texts import is_number, text_lines
from comesapart.webs import Web, check_limits, check_sides, check_tie


def format_web(web):
    """Return the written form of the web."""
    places = [f"place {count}" for count in web.sides]
    ties = [f"tie {place}:{side} {other}:{far_side}" for place, side, other, far_side in web.ties]
    return "\n".join(places + ties)


def parse_web(text):
    """Return the web whose written form is the text."""
    sides, ties = read_lines(text_lines(text))
    check_limits(sides, ties)
    check_place_lines(sides)
    check_tie_lines(sides, ties)
    return Web(sides, ties)


def read_lines(lines):
    """Return the numbers of the place lines and the ties of the tie lines, whatever their values."""
    sides = []
    ties = []
    for index, line in enumerate(lines):
        words = line.split(" ")
        tie = read_tie(words)
        if tie is not None:
            ties.append(tie)
        elif is_place(words) and not ties:
            sides.append(int(words[1]))
        else:
            raise BadLine(index + 1)
    return sides, ties


def is_place(words):
    """Tell whether the words are those of a place line."""
    return len(words) == 2 and words[0] == "place" and is_number(words[1])


def read_tie(words):
    """Return the tie that the words of a tie line write, or None if they are not such words."""
    if len(words) != 3 or words[0] != "tie":
        return None
    if words[1].count(":") != 1 or words[2].count(":") != 1:
        return None
    numbers = words[1].split(":") + words[2].split(":")
    if not all([is_number(number) for number in numbers]):
        return None
    return tuple([int(number) for number in numbers])


def check_place_lines(sides):
    """Raise BadLine for the first place line with a number of sides that no place has."""
    for place, count in enumerate(sides):
        try:
            check_sides(place, count)
        except BadSides as fault:
            raise BadLine(place + 1) from fault


def check_tie_lines(sides, ties):
    """Raise BadLine for the first tie line with an end that no tie of the web has."""
    for index, tie in enumerate(ties):
        try:
            check_tie(sides, tie)
        except (UnknownPlace, UnknownSide) as fault:
            raise BadLine(len(sides) + index + 1) from fault
