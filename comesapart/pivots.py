"""Working off pairs: pivots that are kept, and pivots as numbers (point 61)."""

from math import gcd

from comesapart.elimination import pfaffians_along
from comesapart.errors import UnknownPair
from comesapart.pairings import mates_from_pairs
from comesapart.pfaffians import pfaffian


def check_pairs(paired, pairs):
    """Raise UnknownPair for the first number that is not a pair."""
    for pair in pairs:
        if pair not in range(paired.pairs):
            raise UnknownPair(pair)


def check_next(paired, before, pair):
    """Raise UnknownPair unless the pair can be worked off after the pairs before it."""
    check_pairs(paired, before)
    check_pairs(paired, [pair])
    if pair in before:
        raise UnknownPair(pair)


def points_of_pairs(pairs):
    """Return the points of the pairs, ascending."""
    return [point for pair in sorted(pairs) for point in (2 * pair, 2 * pair + 1)]


def pivot(paired, before, pair):
    """Return the numerator and the denominator of the pivot of the pair."""
    check_next(paired, before, pair)
    numerator = pfaffian(paired, points_of_pairs(list(before) + [pair]))
    return (numerator, pfaffian(paired, points_of_pairs(before)))


def is_kept(paired, before, pair):
    """Tell whether the pivot of the pair is its weight."""
    check_next(paired, before, pair)
    # The numerator has a product for each pairing; those with the pair give its weight times the denominator.
    ties = [ends for tie, ends in enumerate(paired.all_ties) if tie != pair]
    mates = mates_from_pairs(points_of_pairs(list(before) + [pair]), ties, pair)
    return None in list(mates.values())


def touching_order(paired):
    """Return pairs whose pivots are kept but for the last one, or None if the pairs are the only pairing."""
    for pair in range(paired.pairs):
        # An alternating cycle walks its highest pair last, and all pairs before it are kept.
        if not is_kept(paired, list(range(pair)), pair):
            return list(range(pair + 1))
    return None


def worked_off(paired, weights, order):
    """Return the pivots of the pairs in this order, where the weights are numbers, as fractions in lowest terms."""
    check_pairs(paired, order)
    found = pfaffians_along(paired, weights, order)
    return [fraction(found[index], found[index - 1]) for index in range(1, len(found))]


def fraction(numerator, denominator):
    """Return the fraction in lowest terms with a denominator above 0."""
    shared = gcd(numerator, denominator) if denominator > 0 else -gcd(numerator, denominator)
    return (numerator // shared, denominator // shared)
