"""Pairings of a graph (points 11 and 37)."""

from comesapart.couples import first_mates, greatest_mates, mates_after, mates_without
from comesapart.groups import neighbour_lists
from comesapart.pairedwebs import PairedWeb


def ties_at_points(points, ties):
    """Return {point: {other point: the ties that join the two}}."""
    joining = {point: {} for point in points}
    for index, (one, other) in enumerate(ties):
        if one in joining and other in joining and one != other:
            joining[one].setdefault(other, []).append(index)
            joining[other].setdefault(one, []).append(index)
    return joining


def pairings(points, ties):
    """Return all pairings of the graph, ascending."""
    around = neighbour_lists(points, ties)
    joining = ties_at_points(points, ties)
    mates = greatest_mates(around, first_mates(around))
    found = []
    # Each choice that waits can be completed, so that no dead end is tried.
    waiting = [] if None in list(mates.values()) else [([], mates)]
    while waiting:
        chosen, mates = waiting.pop()
        if not mates:
            found.append(sorted(chosen))
            continue
        point = list(mates)[0]
        for other, rest in mates_after(around, mates, point).items():
            waiting.extend([(chosen + [tie], rest) for tie in joining[point][other]])
    return sorted(found)


def is_pairing(points, ties, chosen):
    """Tell whether the numbers are a pairing of the graph, ascending."""
    left = {point: True for point in points}
    for index, tie in enumerate(chosen):
        if tie not in range(len(ties)) or (index > 0 and tie <= chosen[index - 1]):
            return False
        one, other = ties[tie]
        if one == other or one not in left or other not in left:
            return False
        del left[one]
        del left[other]
    return not left


def mates_of_pairs(paired):
    """Return the mates that the pairs make of all points."""
    return {point: paired.partner(point) for point in range(paired.points)}


def mates_from_pairs(points, ties, left_out):
    """Return the mates of a greatest pairing of points of a paired web; all pairs but one are among the ties."""
    around = neighbour_lists(points, ties)
    mates = {}
    for point in points:
        partner = PairedWeb.partner(point)
        mates[point] = partner if partner in around and point // 2 != left_out else None
    return greatest_mates(around, mates)


def tie_uses(paired):
    """Return for each tie whether it is used in all, in some or in none of the pairings of all points."""
    mates = mates_of_pairs(paired)
    around = neighbour_lists(list(mates), paired.all_ties)
    uses = ["all"] * paired.pairs
    for one, other in paired.free:
        if one != other and mates_without(around, mates, one, other) is not None:
            uses.append("some")
            # A pairing with this tie is one without the pairs of its points.
            uses[one // 2] = "some"
            uses[other // 2] = "some"
        else:
            uses.append("none")
    return uses
