"""Weights that sink the Pfaffian of all points to 0 (point 58)."""

from comesapart.alternating import web_of_pairs
from comesapart.elimination import pfaffians_along
from comesapart.search import cycle_by_dropping


def sinking_weights(paired):
    """Return weights other than 0 for which the Pfaffian is 0, or None if the pairs are the only pairing."""
    cycle = cycle_by_dropping(web_of_pairs(paired))
    if cycle is None:
        return None
    walked = sorted([tie for tie, _ in cycle])
    size = 2
    found = None
    # The pairs are the only pairing of heavy ties without the last tie walked, and the pairs changed along the cycle
    # the only one with it. So nothing cancels them once the heavy ties are heavy enough.
    while found is None:
        heavy = [size if tie < paired.pairs or tie in walked else 1 for tie in range(len(paired.all_ties))]
        found = sunk(paired, heavy, walked[-1])
        size = size * size
    return found


def sunk(paired, weights, tie):
    """Return weights that give 0, found by changing the weights of the ties at one end of the tie, or None."""
    without = full_pfaffian(paired, put_weight(weights, tie, 0))
    whole = full_pfaffian(paired, put_weight(weights, tie, 1))
    if without is None or whole is None or without == 0 or without == whole:
        return None
    # Each pairing has exactly one tie at the end. So the Pfaffian becomes factor * -without + without * factor.
    factor = whole - without
    end = paired.all_ties[tie][0]
    changed = [weight * factor if end in ends else weight for weight, ends in zip(weights, paired.all_ties)]
    return put_weight(changed, tie, -without)


def put_weight(weights, tie, number):
    """Return the weights with the number in the place of that of the tie."""
    return [number if index == tie else weight for index, weight in enumerate(weights)]


def full_pfaffian(paired, weights):
    """Return the Pfaffian of all points for these weights, or None if that of some first pairs is 0."""
    found = pfaffians_along(paired, weights, list(range(paired.pairs)))
    return found[-1] if len(found) == paired.pairs + 1 else None
