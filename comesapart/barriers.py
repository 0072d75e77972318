"""Odd pieces of a graph, and the points whose removal shows that it has no pairing (point 47)."""

from comesapart.couples import Forest, first_mates, greatest_mates
from comesapart.groups import grouped, neighbour_lists


def odd_pieces(points, ties):
    """Return the groups with an odd number of points, in the order of their lowest points."""
    return [group for group in grouped(points, ties) if len(group) % 2 == 1]


def pieces_without(points, ties, removed):
    """Return the odd pieces of the graph without the removed points."""
    gone = {point: True for point in removed}
    return odd_pieces([point for point in points if point not in gone], ties)


def barrier(points, ties):
    """Return points without which the graph has as many odd pieces more as a greatest pairing leaves uncovered."""
    around = neighbour_lists(points, ties)
    forest = Forest(around, greatest_mates(around, first_mates(around)))
    # The search fails. Then each tie of an outer point leads to an inner point or stays in one blossom; the blossoms
    # are odd pieces, and each inner point is the mate of a point in one of them.
    forest.grow()
    return sorted([point for point in forest.outer if not forest.outer[point]])


def bars(points, ties, removed):
    """Tell whether the graph without the removed points has more odd pieces than points were removed."""
    return len(pieces_without(points, ties, removed)) > len(removed)
