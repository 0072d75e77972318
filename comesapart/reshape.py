"""Webs that are made from other webs (points 16 to 20)."""

from comesapart.errors import ComesapartError, UnknownPlace
from comesapart.groups import grouped
from comesapart.webs import Web


class NotAPermutation(ComesapartError):
    """The numbers are not those of all places, or of all ties, each exactly once."""


def renumbered(web, *, places=None, ties=None):
    """Return the web in which place p is called places[p], and tie t is called ties[t]."""
    new_places = new_numbers(places, len(web.sides))
    new_ties = new_numbers(ties, len(web.ties))
    sides = [0] * len(web.sides)
    for place, count in enumerate(web.sides):
        sides[new_places[place]] = count
    moved = [()] * len(web.ties)
    for tie, (place, side, other, far_side) in enumerate(web.ties):
        moved[new_ties[tie]] = (new_places[place], side, new_places[other], far_side)
    return Web(sides, moved)


def new_numbers(numbers, count):
    """Return the new numbers of so many items, which stay as they were for None."""
    if numbers is None:
        return list(range(count))
    if sorted(numbers) != list(range(count)):
        raise NotAPermutation(f"these are not {count} different numbers from 0 on")
    return list(numbers)


def restricted(web, kept):
    """Return the web of the kept places, which are numbered as they stand in the list."""
    for place in kept:
        if place not in web:
            raise UnknownPlace(place)
    numbers = {place: index for index, place in enumerate(kept)}
    ties = [(numbers[place], side, numbers[other], far_side) for place, side, other, far_side in web.ties
            if place in numbers and other in numbers]
    return Web([web.sides[place] for place in kept], ties)


def detached(web, place):
    """Return the web in which each end at the place has moved to a new place of its own."""
    # The end (tie, which) is the one by which the step (tie, which) leaves.
    moving = web.steps_from(place)
    ties = [list(tie) for tie in web.ties]
    for index, (tie, which) in enumerate(moving):
        ties[tie][2 * which] = len(web.sides) + index
        ties[tie][2 * which + 1] = 0
    return Web(web.sides + (1,) * len(moving), ties)


def leafed(web):
    """Return the web in which each place with several ends that is not a joint has been detached."""
    result = web
    for place in range(len(web.sides)):
        if place not in web.joints and len(web.steps_from(place)) > 1:
            result = detached(result, place)
    return result


def web_parts(web):
    """Return the groups of places that the ties connect."""
    return grouped(list(range(len(web.sides))), [(tie[0], tie[2]) for tie in web.ties])
