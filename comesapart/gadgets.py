"""Webs as paired webs: each place becomes a gadget of pairs (points 42 and 43)."""

from comesapart.cycles import is_turning_cycle
from comesapart.errors import NotATurningCycle, UnknownPlace
from comesapart.pairedwebs import PairedWeb
from comesapart.webs import check_end


def gadget_starts(web):
    """Return the first pairs of the gadgets in order, and behind them the number of all pairs."""
    starts = [0]
    for sides in web.sides:
        starts.append(starts[-1] + (sides + 1 if sides > 2 else 1))
    return starts


def point_in(first, sides, side):
    """Return the point of a side in the gadget that begins with this pair."""
    return 2 * (first + side) if sides > 2 else 2 * first + side


def inner_ties(first, sides):
    """Return the free ties inside of a gadget."""
    if sides < 3:
        return []
    middle = 2 * (first + sides)
    return [(2 * (first + side) + 1, end) for side in range(sides) for end in (middle, middle + 1)]


def paired_of_web(web):
    """Return the paired web of the gadgets."""
    starts = gadget_starts(web)
    free = []
    for place, side, other, far_side in web.ties:
        free.append((point_in(starts[place], web.sides[place], side),
                     point_in(starts[other], web.sides[other], far_side)))
    for place, sides in enumerate(web.sides):
        free.extend(inner_ties(starts[place], sides))
    return PairedWeb(starts[-1], free)


def point_at(web, place, side):
    """Return the point of the side of the place."""
    check_end(web.sides, place, side)
    return point_in(gadget_starts(web)[place], web.sides[place], side)


def pair_at(web, place):
    """Return the only pair of a place with one or two sides, the middle pair of any other place."""
    if place not in web:
        raise UnknownPlace(place)
    return gadget_starts(web)[place + 1] - 1


def lead_in(web, steps):
    """Return the alternating cycle of the paired web for the turning cycle."""
    if not is_turning_cycle(web, steps):
        raise NotATurningCycle("the steps are not a turning cycle")
    pairs = gadget_starts(web)[-1]
    found = []
    for index, (tie, direction) in enumerate(steps):
        place, entered = web.head((tie, direction))
        after = steps[(index + 1) % len(steps)]
        found.append((pairs + tie, direction))
        found.extend(steps_through(web, place, entered, web.tail(after)[1]))
    return found


def steps_through(web, place, entered, left):
    """Return the steps through the gadget of a place that is entered by one side and left by another."""
    starts = gadget_starts(web)
    first = starts[place]
    if web.sides[place] < 3:
        return [(first, entered)]
    spokes = starts[-1] + len(web.ties) + sum([2 * sides for sides in web.sides[:place] if sides > 2])
    return [(first + entered, 0), (spokes + 2 * entered, 0), (first + web.sides[place], 0),
            (spokes + 2 * left + 1, 1), (first + left, 1)]


def lead_out(web, steps):
    """Return the steps of the web for those steps of the paired web that walk the ties of the web."""
    pairs = gadget_starts(web)[-1]
    return [(tie - pairs, direction) for tie, direction in steps if tie in range(pairs, pairs + len(web.ties))]
