"""Strict paths from one point of a paired web to another one (points 48 to 50)."""

from comesapart.alternating import web_of_pairs
from comesapart.barriers import barrier
from comesapart.couples import mates_after, mates_without, ties_of_mates
from comesapart.errors import BadStep, SamePoint, UnknownPoint
from comesapart.groups import neighbour_lists
from comesapart.pairings import mates_of_pairs, pairings
from comesapart.paths import is_turning_path, walk_places


def check_points(paired, first, last):
    """Raise an error unless the two are different points."""
    for point in (first, last):
        if point not in paired:
            raise UnknownPoint(point)
    if first == last:
        raise SamePoint(first)


def points_without(paired, first, last):
    """Return all points but two, ascending."""
    return [point for point in range(paired.points) if point not in (first, last)]


def is_strict_path(paired, first, last, steps):
    """Tell whether the steps are a strict path from the first point to the last one."""
    check_points(paired, first, last)
    web = web_of_pairs(paired)
    try:
        if not is_turning_path(web, first, steps) or walk_places(web, first, steps)[-1] != last:
            return False
    except BadStep:
        return False
    # The points differ, so there is a first step.
    return steps[0][0] < paired.pairs and steps[-1][0] < paired.pairs


def pair_step(point):
    """Return the step that leaves the point along its pair."""
    return (point // 2, point % 2)


def free_steps(paired):
    """Return for each point the steps that leave it along free ties, and their ends: tuples (step, end)."""
    leaving = [[] for _ in range(paired.points)]
    for index, (one, other) in enumerate(paired.free):
        leaving[one].append(((paired.pairs + index, 0), other))
        leaving[other].append(((paired.pairs + index, 1), one))
    return leaving


def strict_path(paired, first, last):
    """Return the word "path" and a strict path, or the word "barrier" and points that show that there is none."""
    check_points(paired, first, last)
    mates = mates_of_pairs(paired)
    rest = mates_without(neighbour_lists(list(mates), paired.all_ties), mates, first, last)
    if rest is None:
        return ("barrier", barrier(points_without(paired, first, last), paired.all_ties))
    return ("path", path_of_pairing(paired, first, last, ties_of_mates(paired.all_ties, rest)))


def strict_paths(paired, first, last):
    """Return all strict paths, ascending."""
    check_points(paired, first, last)
    start = paired.partner(first)
    if start == last:
        return [[pair_step(first)]]
    mates = mates_of_pairs(paired)
    around = neighbour_lists(list(mates), paired.all_ties)
    leaving = free_steps(paired)
    found = []
    # Each walk waits with its last point and with mates of all points that are left, so that no dead end is tried.
    waiting = [([pair_step(first)], start, mates_without(around, mates, first, last))]
    while waiting:
        steps, point, mates = waiting.pop()
        if point == last:
            found.append(steps)
        elif mates is not None:
            rests = mates_after(around, mates, point)
            waiting.extend([(steps + [step, pair_step(end)], paired.partner(end), rests[end])
                            for step, end in leaving[point] if end in rests])
    return sorted(found)


def pairings_without(paired, first, last):
    """Return all pairings of the points but these two, ascending."""
    check_points(paired, first, last)
    return pairings(points_without(paired, first, last), paired.all_ties)


def path_of_pairing(paired, first, last, chosen):
    """Return the strict path on which the pairing of the points but these two differs from the pairs."""
    check_points(paired, first, last)
    ties = paired.all_ties
    onward = {}
    for tie in chosen:
        one, other = ties[tie]
        onward[one] = ((tie, 0), other)
        onward[other] = ((tie, 1), one)
    steps = [pair_step(first)]
    point = paired.partner(first)
    while point != last:
        step, end = onward.pop(point)
        steps.extend([step, pair_step(end)])
        point = paired.partner(end)
    return steps
