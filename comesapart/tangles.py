"""Tangles: blocks of ties that have ends on two sides of each of their places.

Each turning cycle lies in a tangle, and each tangle holds a turning cycle, since none of its places is a hinge.
"""

from comesapart.blocks import blocks_of, crossed_places


def tangles(web, ties):
    """Return the tangles of the web that has only the ties with these numbers: lists of ties."""
    found = []
    waiting = blocks_of(web, ties)
    while waiting:
        block = waiting.pop()
        crossed = {place: True for place in crossed_places(web, block)}
        kept = [tie for tie in block if web.ties[tie][0] in crossed and web.ties[tie][2] in crossed]
        if len(kept) == len(block):
            found.append(block)
        else:
            waiting.extend(blocks_of(web, kept))
    return found


def tangled_ties(web, ties):
    """Return the ties of all tangles, ascending."""
    return sorted([tie for tangle in tangles(web, ties) for tie in tangle])
