"""Trails through the links of a wiring and through the cuts of its roots (points 77 and 78)."""

from comesapart.errors import ComesapartError, UnknownTerm
from comesapart.joining import check_cuts, opposite_parts
from comesapart.lowhigh import in_order


class NotOuter(ComesapartError):
    """The leaf is not an outer leaf."""


def opposite_leaves(wiring, cuts):
    """Return {leaf: its opposite leaf} for all leaves under roots that are in a cut."""
    check_cuts(wiring, cuts)
    opposite = {}
    waiting = list(cuts)
    while waiting:
        one, other = waiting.pop()
        if one < wiring.leaves:
            opposite[one] = other
            opposite[other] = one
        else:
            waiting.extend(opposite_parts(wiring, one, other))
    return opposite


def opposite_of_leaf(wiring, opposite, leaf):
    """Return the opposite leaf, or None for an outer leaf."""
    if leaf not in range(wiring.leaves):
        raise UnknownTerm(leaf)
    return opposite.get(leaf)


def opposite_leaf(wiring, cuts, leaf):
    """Return the opposite leaf, or None for an outer leaf."""
    return opposite_of_leaf(wiring, opposite_leaves(wiring, cuts), leaf)


def trail(wiring, cuts, leaf):
    """Return the leaves that the trail from an outer leaf meets, in order."""
    opposite = opposite_leaves(wiring, cuts)
    if opposite_of_leaf(wiring, opposite, leaf) is not None:
        raise NotOuter("the leaf is under a root that is in a cut")
    return leaves_along(wiring, opposite, leaf)


def leaves_along(wiring, opposite, leaf):
    """Return the leaves from this one on to the first outer leaf behind a link, or until the first leaf comes back."""
    met = [leaf, wiring.mate(leaf)]
    while opposite.get(met[-1], leaf) != leaf:
        met.append(opposite[met[-1]])
        met.append(wiring.mate(met[-1]))
    return met


def outer_leaves(wiring, opposite):
    """Return the outer leaves, ascending."""
    return [leaf for leaf in range(wiring.leaves) if leaf not in opposite]


def trail_links(wiring, cuts):
    """Return the two ends of each trail, each trail once, ascending."""
    opposite = opposite_leaves(wiring, cuts)
    ends = [(leaf, leaves_along(wiring, opposite, leaf)[-1]) for leaf in outer_leaves(wiring, opposite)]
    # Each trail is found from both of its ends.
    return sorted({in_order(first, last) for first, last in ends})


def closed_trails(wiring, cuts):
    """Return the leaves of the closed trails, each from its lowest leaf on, in ascending order."""
    opposite = opposite_leaves(wiring, cuts)
    met = {}
    for leaf in outer_leaves(wiring, opposite):
        for other in leaves_along(wiring, opposite, leaf):
            met[other] = True
    found = []
    for leaf in range(wiring.leaves):
        if leaf not in met:
            found.append(leaves_along(wiring, opposite, leaf))
            for other in found[-1]:
                met[other] = True
    return found
