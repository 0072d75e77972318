"""Neighbouring ends, and the zigzags that keep a web from having a facing (points 25 and 27)."""

from comesapart.paths import is_step
from comesapart.runs import walk_back
from comesapart.webs import Web

# An end (tie, which) is the one by which the step (tie, which) leaves; so the functions for steps serve ends, too.


def neighbours(web, end):
    """Return the neighbours of the end, ascending."""
    place, side = web.tail(end)
    across = [other for other in web.steps_from(place) if web.tail(other)[1] != side]
    return sorted(set(across + [Web.back(end)]))


def are_neighbours(web, one, other):
    """Tell whether two ends of the web are neighbours."""
    place, side = web.tail(one)
    other_place, other_side = web.tail(other)
    return other == Web.back(one) or (place == other_place and side != other_side)


def is_zigzag(web, ends):
    """Tell whether the ends are a zigzag of the web."""
    if len(ends) % 2 == 0 or not all([is_step(web, end) for end in ends]):
        return False
    return all([are_neighbours(web, ends[index - 1], end) for index, end in enumerate(ends)])


def zigzag(web):
    """Return a zigzag of the web, or None if it has none."""
    for came in spreads(web):
        depths = depths_of(came)
        for end in came:
            for near in neighbours(web, end):
                if depths[near] % 2 == depths[end] % 2:
                    return walk_back(came, end)[::-1] + walk_back(came, near)[:-1]
    return None


def spreads(web):
    """Return for each tie group what spread returns for end 0 of its lowest tie."""
    found = []
    met = {}
    for tie in range(len(web.ties)):
        if (tie, 0) not in met:
            found.append(spread(web, (tie, 0)))
            for end in found[-1]:
                met[end] = True
    return found


def spread(web, start):
    """Return {end: the end before it} for shortest chains of neighbours from the start, nearer ends first."""
    came = {start: None}
    queue = [start]
    at = 0
    while at < len(queue):
        for near in neighbours(web, queue[at]):
            if near not in came:
                came[near] = queue[at]
                queue.append(near)
        at += 1
    return came


def depths_of(came):
    """Return for each end that was spread to the number of steps in the chain from the start."""
    depths = {}
    for end, before in came.items():
        depths[end] = 0 if before is None else depths[before] + 1
    return depths
