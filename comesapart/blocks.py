"""Blocks of ties: two ties are in one block if they are equal or if some cycle walks both, whatever its sides."""

from comesapart.groups import neighbour_lists


def blocks_of(web, ties):
    """Return the blocks of the graph that has only the ties with these numbers; a loop is a block of its own."""
    loops = [tie for tie in ties if web.ties[tie][0] == web.ties[tie][2]]
    others = [tie for tie in ties if web.ties[tie][0] != web.ties[tie][2]]
    joined = [(web.ties[tie][0], web.ties[tie][2]) for tie in others]
    around = neighbour_lists([place for ends in joined for place in ends], joined)
    parents = depth_first(around)
    numbers = {place: index for index, place in enumerate(parents)}
    labels = block_labels(around, parents, numbers)
    blocks = {}
    for tie, (one, other) in zip(others, joined):
        deeper = one if numbers[one] > numbers[other] else other
        blocks.setdefault(labels[deeper], []).append(tie)
    return [[loop] for loop in loops] + list(blocks.values())


def depth_first(around):
    """Return {place: its parent or None} of a depth-first search, in the order in which it meets the places."""
    parents = {}
    tried = {place: 0 for place in around}
    for root in around:
        path = [] if root in parents else [root]
        parents.setdefault(root, None)
        while path:
            place = path[-1]
            if tried[place] == len(around[place]):
                path.pop()
                continue
            other = around[place][tried[place]]
            tried[place] += 1
            if other not in parents:
                parents[other] = place
                path.append(other)
    return parents


def block_labels(around, parents, numbers):
    """Return for each place that has a parent a label of the block of the tie to the parent.

    A tie that is not walked by the search leads from a place to one above it, and is in the block of the lower place.
    """
    highest = {place: min([numbers[other] for other in around[place]]) for place in parents}
    for place in list(parents)[::-1]:
        parent = parents[place]
        if parent is not None:
            highest[parent] = min(highest[parent], highest[place])
    labels = {}
    for place, parent in parents.items():
        if parent is not None:
            # Only a cycle through the tie above the parent leads from below to a place above the parent.
            labels[place] = labels[parent] if highest[place] < numbers[parent] else place
    return labels


def crossed_places(web, ties):
    """Return the places at which the ties with these numbers have ends on two sides or more."""
    sides = {}
    crossed = {}
    for tie in ties:
        for place, side in (web.tail((tie, 0)), web.tail((tie, 1))):
            if sides.setdefault(place, side) != side:
                crossed[place] = True
    return list(crossed)
