"""Bridges of a paired web: the pairs are taken one after another (points 40 and 41)."""

from comesapart.alternating import web_of_pairs
from comesapart.blocks import blocks_of
from comesapart.errors import UnknownPair
from comesapart.groups import neighbour_lists, reached_points


def is_bridge(paired, taken, pair):
    """Tell whether the pair is a bridge after the pairs of the list have been taken."""
    for other in taken:
        if other not in range(paired.pairs):
            raise UnknownPair(other)
    if pair not in range(paired.pairs) or pair in taken:
        raise UnknownPair(pair)
    gone = {other: True for other in taken}
    points = [point for point in range(paired.points) if point // 2 not in gone]
    ties = [tie for index, tie in enumerate(paired.all_ties) if index != pair]
    return 2 * pair + 1 not in reached_points(neighbour_lists(points, ties), 2 * pair)


def bridges_among(paired, left):
    """Return the bridges when only these pairs are left, ascending."""
    inside = {pair: True for pair in left}
    ties = [tie for tie, (one, other) in enumerate(paired.all_ties) if one // 2 in inside and other // 2 in inside]
    # Without a bridge its points are in different groups, so no cycle walks it: it is a block of its own.
    return sorted([block[0] for block in blocks_of(web_of_pairs(paired), ties)
                   if len(block) == 1 and block[0] < paired.pairs])


def bridge_order(paired):
    """Return the lowest bridge order."""
    order = []
    left = list(range(paired.pairs))
    ready = bridges_among(paired, left)
    while ready:
        order.append(ready[0])
        left.remove(ready[0])
        ready = bridges_among(paired, left)
    return order


def core(paired):
    """Return the pairs that are left in the end, ascending."""
    taken = {pair: True for pair in bridge_order(paired)}
    return [pair for pair in range(paired.pairs) if pair not in taken]


def is_only_pairing(paired):
    """Tell whether the pairs are the only pairing of all points."""
    return core(paired) == []


def fault_in_bridges(paired, order):
    """Return None for a bridge order, otherwise the index of its first entry that cannot be taken."""
    for index, pair in enumerate(order):
        taken = order[:index]
        if pair not in range(paired.pairs) or pair in taken or not is_bridge(paired, taken, pair):
            return index
    return None


def bridges_of_openings(paired, order):
    """Return the pairs of the points in the order in which they come first, and behind them all other pairs."""
    met = {point // 2: True for point in order}
    return list(met) + [pair for pair in range(paired.pairs) if pair not in met]


def openings_of_bridges(paired, order):
    """Return the points of the pairs that are joints of the web of pairs, pair by pair."""
    joints = {point: True for point in web_of_pairs(paired).joints}
    return [point for pair in order for point in (2 * pair, 2 * pair + 1) if point in joints]
