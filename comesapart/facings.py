"""Facings of a web: directions of its ties that every turning walk keeps or reverses (points 24 to 26)."""

from comesapart.errors import ComesapartError
from comesapart.followers import follower_table
from comesapart.rings import is_ring
from comesapart.zigzags import depths_of, spreads


class NoFacing(ComesapartError):
    """The web has no facing."""


class NotARing(ComesapartError):
    """The steps are not a ring of the web."""


def is_facing(web, directions):
    """Tell whether the directions, one for each tie, are a facing."""
    if len(directions) != len(web.ties) or not all([direction in (0, 1) for direction in directions]):
        return False
    table = follower_table(web)
    for step in table:
        for after in table[step]:
            if goes_with(directions, step) != goes_with(directions, after):
                return False
    return True


def goes_with(directions, step):
    """Tell whether the step goes with the direction of its tie."""
    tie, direction = step
    return directions[tie] == direction


def facing(web):
    """Return the facing that gives the lowest tie of each tie group the direction 0, or None."""
    directions = [0] * len(web.ties)
    # In a facing, one of two neighbouring ends is left and the other one entered; so their directions alternate.
    for came in spreads(web):
        depths = depths_of(came)
        for tie, which in came:
            if which == 0:
                directions[tie] = depths[(tie, 0)] % 2
    if not is_facing(web, directions):
        return None
    return directions


def tie_groups(web):
    """Return the tie groups, each ascending, in the order of their lowest ties."""
    return [sorted({tie for tie, _ in came}) for came in spreads(web)]


def count_facings(web):
    """Return the number of facings."""
    if facing(web) is None:
        return 0
    count = 1
    for _ in tie_groups(web):
        count = count * 2
    return count


def cycle_in_ring(web, ring):
    """Return a turning cycle that consists of steps of the ring."""
    if facing(web) is None:
        raise NoFacing("the web has no facing")
    if not is_ring(web, ring):
        raise NotARing("the steps are not a ring")
    # The ring enters a place always by one side and leaves it by another; so what lies between two visits is a ring.
    met = {}
    for index, step in enumerate(ring):
        place = web.tail(step)[0]
        if place in met:
            return list(ring[met[place]:index])
        met[place] = index
    return list(ring)
