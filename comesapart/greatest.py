"""Greatest partial pairings (point 46)."""

from comesapart.couples import first_mates, greatest_mates, ties_of_mates
from comesapart.groups import neighbour_lists


def greatest_pairing(points, ties):
    """Return a partial pairing with as many ties as possible, ascending."""
    around = neighbour_lists(points, ties)
    return ties_of_mates(ties, greatest_mates(around, first_mates(around)))
