"""Cycles in a web and the places at which they turn (point 7)."""

from comesapart.errors import BadStep, Repeated
from comesapart.paths import is_step, reversed_steps, turns
from comesapart.webs import Web


def cycle_places(web, steps):
    """Return the places that the steps of the cycle leave, in order."""
    check_steps(web, steps)
    places = [web.tail(step)[0] for step in steps]
    check_repeats(places, steps)
    return places


def check_steps(web, steps):
    """Raise BadStep if the steps do not lead round."""
    if len(steps) == 0:
        raise BadStep(0)
    for index, step in enumerate(steps):
        if not is_step(web, step):
            raise BadStep(index)
        if index > 0 and web.tail(step)[0] != web.head(steps[index - 1])[0]:
            raise BadStep(index)
    if web.head(steps[-1])[0] != web.tail(steps[0])[0]:
        raise BadStep(len(steps))


def check_repeats(places, steps):
    """Raise Repeated for the first step with a place or a tie of an earlier step."""
    left = {}
    walked = {}
    for index, (tie, _) in enumerate(steps):
        if places[index] in left or tie in walked:
            raise Repeated(index)
        left[places[index]] = True
        walked[tie] = True


def cusps(web, steps):
    """Return the places at which the cycle does not turn, in the order of its places."""
    places = cycle_places(web, steps)
    return [place for index, place in enumerate(places) if not turns(web, steps[index - 1], steps[index])]


def is_turning_cycle(web, steps):
    """Tell whether the steps are a turning cycle of the web."""
    try:
        return cusps(web, steps) == []
    except (BadStep, Repeated):
        return False


def normal_cycle(steps):
    """Return the cycle from its lowest tie on, walked in direction 0."""
    lowest = min([tie for tie, _ in steps])
    forward = list(steps) if (lowest, 0) in steps else reversed_steps(steps)
    start = forward.index((lowest, 0))
    return forward[start:] + forward[:start]


def cycles_of_ties(web, ties):
    """Return the cycles of the ties in normal form, ascending; each place has none or two of the ends of the ties."""
    leaving = {}
    for tie in ties:
        for step in ((tie, 0), (tie, 1)):
            leaving.setdefault(web.tail(step)[0], []).append(step)
    walked = {}
    found = []
    for tie in sorted(ties):
        if tie not in walked:
            cycle = cycle_from(web, leaving, (tie, 0))
            for other, _ in cycle:
                walked[other] = True
            found.append(cycle)
    return found


def cycle_from(web, leaving, start):
    """Return the cycle from the start on, where two steps leave each place."""
    cycle = [start]
    while True:
        entry = Web.back(cycle[-1])
        one, other = leaving[web.tail(entry)[0]]
        after = other if one == entry else one
        if after == start:
            return cycle
        cycle.append(after)
