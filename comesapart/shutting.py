"""States of a web that is being taken apart: the shut places, and the blocks of the ties between them.

A group beside a place touches two of its sides exactly if a block has ends on both of these sides.
So the hinges are the places at which no block has ends on two sides.
"""

from comesapart.blocks import blocks_of, crossed_places


def shut_state(web, shut):
    """Return the state in which exactly these places are shut: the tuple (places, blocks)."""
    inside = {place: True for place in shut}
    between = [tie for tie, ends in enumerate(web.ties) if ends[0] in inside and ends[2] in inside]
    return (sorted(shut), blocks_of(web, between))


def hinges_in(web, state):
    """Return the hinges of the shut places, ascending."""
    places, blocks = state
    crossed = {}
    for block in blocks:
        for place in crossed_places(web, block):
            crossed[place] = True
    return [place for place in places if place not in crossed]


def state_after(web, state, opened):
    """Return the state in which the opened places are not shut any more."""
    places, blocks = state
    gone = {place: True for place in opened}
    left = []
    for block in blocks:
        kept = [tie for tie in block if web.ties[tie][0] not in gone and web.ties[tie][2] not in gone]
        # A block that loses no tie stays as it is.
        left.extend([block] if len(kept) == len(block) else blocks_of(web, kept))
    return ([place for place in places if place not in gone], left)
