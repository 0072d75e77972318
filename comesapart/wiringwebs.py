"""The web of a wiring, and sound and whole wirings (point 62)."""

from comesapart.errors import UnknownTerm
from comesapart.openings import knot
from comesapart.webs import Web


def place_of(wiring, term):
    """Return the place of the term and its lower side."""
    if term not in wiring:
        raise UnknownTerm(term)
    if term < wiring.leaves:
        link = wiring.link_of(term)
        return (link, wiring.links[link].index(term))
    node = term - wiring.leaves
    return (len(wiring.links) + node, 2 if wiring.nodes[node][0] == "both" else 1)


def web_of_wiring(wiring):
    """Return the web of the wiring."""
    sides = [2] * len(wiring.links) + [3 if node[0] == "both" else 2 for node in wiring.nodes]
    ties = []
    for node, (kind, left, right) in enumerate(wiring.nodes):
        place = len(wiring.links) + node
        ties.append(place_of(wiring, left) + (place, 0))
        ties.append(place_of(wiring, right) + (place, 1 if kind == "both" else 0))
    return Web(sides, ties)


def is_sound(wiring):
    """Tell whether the web of the wiring has no turning cycle."""
    return knot(web_of_wiring(wiring)) == []


def is_whole(wiring):
    """Tell whether the wiring is sound and has exactly one link more than boths."""
    return len(wiring.links) == wiring.boths + 1 and is_sound(wiring)
