"""Alternating cycles of a paired web (points 38 and 39)."""

from comesapart.cycles import cycles_of_ties
from comesapart.errors import ComesapartError
from comesapart.pairings import is_pairing
from comesapart.search import turning_cycles
from comesapart.webs import Web


class NotAPairing(ComesapartError):
    """The numbers are not a pairing of all points."""


def web_of_pairs(paired):
    """Return the web whose places are the points; pairs are on side 0, free ties on side 1."""
    pairs = [(2 * pair, 0, 2 * pair + 1, 0) for pair in range(paired.pairs)]
    return Web([2] * paired.points, pairs + [(one, 1, other, 1) for one, other in paired.free])


def alternating_cycles(paired):
    """Return all alternating cycles in normal form, ascending."""
    return turning_cycles(web_of_pairs(paired))


def changed_along(chosen, steps):
    """Return the ties that are in the list or walked by a step, but not both, ascending."""
    walked = [tie for tie, _ in steps]
    return sorted([tie for tie in chosen if tie not in walked] + [tie for tie in walked if tie not in chosen])


def parting_cycles(paired, chosen):
    """Return the alternating cycles in which the pairing and the pairs differ, ascending in normal form."""
    if not is_pairing(list(range(paired.points)), paired.all_ties, chosen):
        raise NotAPairing("the ties are not a pairing of all points")
    along_pairs = [(pair, 0) for pair in range(paired.pairs)]
    return cycles_of_ties(web_of_pairs(paired), changed_along(chosen, along_pairs))
