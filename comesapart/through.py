"""Turning cycles through a given place or tie of a web (points 51 to 53)."""

from comesapart.alternating import parting_cycles
from comesapart.barriers import barrier
from comesapart.couples import mates_without, ties_of_mates
from comesapart.cycles import normal_cycle
from comesapart.errors import UnknownPlace, UnknownTie
from comesapart.gadgets import lead_out, pair_at, paired_of_web
from comesapart.groups import neighbour_lists
from comesapart.pairings import mates_from_pairs, mates_of_pairs


def check_tie_number(web, tie):
    """Raise UnknownTie if the web does not have the tie."""
    if tie not in range(len(web.ties)):
        raise UnknownTie(tie)


def place_graph(web, place):
    """Return all points and all ties of the paired web of the web but the pair of the place."""
    if place not in web:
        raise UnknownPlace(place)
    paired = paired_of_web(web)
    pair = pair_at(web, place)
    return (list(range(paired.points)), [ends for tie, ends in enumerate(paired.all_ties) if tie != pair])


def tie_graph(web, tie):
    """Return all ties of the paired web of the web, and all of its points but the ends of the tie."""
    check_tie_number(web, tie)
    paired = paired_of_web(web)
    return ([point for point in range(paired.points) if point not in paired.free[tie]], list(paired.all_ties))


def cycle_through_place(web, place):
    """Return the word "cycle" and a turning cycle that leaves the place, or "barrier" and points that show none."""
    points, ties = place_graph(web, place)
    pair = pair_at(web, place)
    mates = mates_from_pairs(points, ties, pair)
    if None in list(mates.values()):
        return ("barrier", barrier(points, ties))
    # The numbers behind that of the pair, whose tie is left out, have fallen by one.
    chosen = [tie if tie < pair else tie + 1 for tie in ties_of_mates(ties, mates)]
    return ("cycle", cycle_of_pairing(web, chosen, pair))


def cycle_through_tie(web, tie):
    """Return the word "cycle" and a turning cycle that walks the tie, or "barrier" and points that show none."""
    points, ties = tie_graph(web, tie)
    mates = mates_from_pairs(points, ties, None)
    if None in list(mates.values()):
        return ("barrier", barrier(points, ties))
    number = paired_of_web(web).pairs + tie
    return ("cycle", cycle_of_pairing(web, sorted(ties_of_mates(ties, mates) + [number]), number))


def cycle_of_pairing(web, chosen, number):
    """Return the turning cycle for the alternating cycle that walks this tie, of those that part the pairing."""
    cycles = parting_cycles(paired_of_web(web), chosen)
    walking = [cycle for cycle in cycles if number in [tie for tie, _ in cycle]]
    return normal_cycle(lead_out(web, walking[0]))


def on_cycles(web):
    """Return the places and the ties that are on at least one turning cycle."""
    paired = paired_of_web(web)
    mates = mates_of_pairs(paired)
    around = neighbour_lists(list(mates), paired.all_ties)
    ties = []
    places = {}
    for tie, ends in enumerate(web.ties):
        one, other = paired.free[tie]
        if one != other and mates_without(around, mates, one, other) is not None:
            ties.append(tie)
            places[ends[0]] = True
            places[ends[2]] = True
    return (sorted(places), ties)
