"""Searching turning cycles: all of them, one of them, or the opening order that shows that there is none (point 34)."""

from comesapart.cycles import cycles_of_ties
from comesapart.followers import followers
from comesapart.openings import opening_order
from comesapart.tangles import tangled_ties, tangles


def turning_cycles(web):
    """Return all turning cycles in normal form, ascending."""
    found = []
    waiting = tangles(web, list(range(len(web.ties))))
    while waiting:
        tangle = waiting.pop()
        lowest = min(tangle)
        found.extend(cycles_with(web, lowest, tangle))
        waiting.extend(tangles(web, [tie for tie in tangle if tie != lowest]))
    return sorted(found)


def followers_among(web, ties):
    """Return {step: its followers} for the steps that walk the ties; only followers that do so are named."""
    allowed = {tie: True for tie in ties}
    return {(tie, direction): [step for step in followers(web, (tie, direction)) if step[0] in allowed]
            for tie in ties for direction in (0, 1)}


def cycles_with(web, lowest, ties):
    """Return the turning cycles that walk the lowest tie first, in direction 0, and then others of the ties."""
    table = followers_among(web, ties)
    home, home_side = web.tail((lowest, 0))
    found = []
    waiting = [[(lowest, 0)]]
    while waiting:
        walk = waiting.pop()
        place, side = web.head(walk[-1])
        if place == home:
            if side != home_side:
                found.append(walk)
            continue
        met = {web.tail(step)[0]: True for step in walk[1:]}
        waiting.extend([walk + [step] for step in table[walk[-1]]
                        if web.head(step)[0] not in met and web.head(step)[0] != place])
    return found


def cycle_by_dropping(web):
    """Return the turning cycle of the ties that are left when ties are dropped, or None if the knot is empty."""
    left = tangled_ties(web, list(range(len(web.ties))))
    if not left:
        return None
    for tie in range(len(web.ties)):
        # A tie outside of the tangles is dropped without a look, since they stay without it.
        if tie in left:
            fewer = tangled_ties(web, [other for other in left if other != tie])
            left = fewer if fewer else left
    return cycles_of_ties(web, left)[0]


def verdict(web):
    """Return the word "apart" and the lowest opening order, or the word "cycle" and a turning cycle."""
    cycle = cycle_by_dropping(web)
    if cycle is None:
        return ("apart", opening_order(web))
    return ("cycle", cycle)
