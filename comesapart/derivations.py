"""Derivations: a wiring is built step by step (points 64 to 66)."""

from comesapart.groups import grouped
from comesapart.wiringwebs import place_of, web_of_wiring

NUMBERS = {"link": 1, "together": 1, "both": 1, "beside": 2}


def fault_in_derivation(wiring, steps):
    """Return None for a derivation, otherwise the index of the first step that cannot be done, or their number."""
    pieces = {}
    for index, step in enumerate(steps):
        if not is_possible(wiring, pieces, step):
            return index
        do_step(wiring, pieces, step)
    places = len(wiring.links) + len(wiring.nodes)
    if len(pieces) < places or len(set(list(pieces.values()))) > 1:
        return len(steps)
    return None


def parts_of(wiring, node):
    """Return the places of the left and of the right part of a node."""
    _, left, right = wiring.nodes[node]
    return (place_of(wiring, left)[0], place_of(wiring, right)[0])


def is_possible(wiring, pieces, step):
    """Tell whether the step can be done, where pieces is {built place: number of its piece}."""
    word = step[0]
    if word not in NUMBERS or len(step) != NUMBERS[word] + 1:
        return False
    if word == "link":
        return step[1] in range(len(wiring.links)) and step[1] not in pieces
    if word == "beside":
        # Nodes are built places, too, but only links are named here.
        links = [link for link in step[1:] if link in range(len(wiring.links)) and link in pieces]
        return len(links) == 2 and pieces[links[0]] != pieces[links[1]]
    node = step[1]
    if node not in range(len(wiring.nodes)) or wiring.nodes[node][0] != word or len(wiring.links) + node in pieces:
        return False
    left, right = parts_of(wiring, node)
    if left not in pieces or right not in pieces:
        return False
    return (pieces[left] == pieces[right]) == (word == "together")


def do_step(wiring, pieces, step):
    """Do a step that can be done."""
    if step[0] == "link":
        # A piece has the number of a link in it.
        pieces[step[1]] = step[1]
    elif step[0] == "beside":
        unite(pieces, step[1], step[2])
    else:
        left, right = parts_of(wiring, step[1])
        unite(pieces, left, right)
        pieces[len(wiring.links) + step[1]] = pieces[left]


def unite(pieces, one, other):
    """Make one piece of the pieces of two places."""
    old = pieces[other]
    for place in list(pieces):
        if pieces[place] == old:
            pieces[place] = pieces[one]


def find_derivation(wiring):
    """Return a derivation of the wiring, or None if there is none."""
    web = web_of_wiring(wiring)
    # The steps are found from the last one to the first one; each set of places that waits is built for itself.
    found = []
    waiting = [list(range(len(web.sides)))]
    while waiting:
        places = waiting.pop()
        togethers = last_togethers(wiring, places)
        found.extend([("together", place - len(wiring.links)) for place in togethers])
        places = [place for place in places if place not in togethers]
        if places[-1] < len(wiring.links):
            found.extend([("beside", places[0], link) for link in places[1:]] + [("link", link) for link in places])
            continue
        place, groups = last_both(wiring, web, places)
        if place is None:
            return None
        found.extend(steps_with_both(wiring, place, groups))
        waiting.extend(groups)
    return found[::-1]


def is_top(wiring, places, place):
    """Tell whether the place is one of a node that is no part of a node at one of the places."""
    if place < len(wiring.links):
        return False
    parent = wiring.parent(wiring.leaves + place - len(wiring.links))
    return parent is None or len(wiring.links) + parent not in places


def last_togethers(wiring, places):
    """Return the places of the togethers that can come last, where those behind them are taken away one by one."""
    left = list(places)
    found = []
    for place in sorted(places, reverse=True):
        if is_top(wiring, left, place) and wiring.nodes[place - len(wiring.links)][0] == "together":
            found.append(place)
            left.remove(place)
    return found


def last_both(wiring, web, places):
    """Return the place of a both that can be the last step, and the groups of the others; or None and no groups."""
    ties = [(ends[0], ends[2]) for ends in web.ties]
    for place in places:
        if is_top(wiring, places, place):
            groups = grouped([other for other in places if other != place], ties)
            left, right = parts_of(wiring, place - len(wiring.links))
            if not [group for group in groups if left in group and right in group]:
                return (place, groups)
    return (None, [])


def steps_with_both(wiring, place, groups):
    """Return the step of the both and those that join the groups without its parts, the last one first."""
    node = place - len(wiring.links)
    left, right = parts_of(wiring, node)
    # A group begins with a link, since its nodes have their parts in it.
    start = [group[0] for group in groups if left in group][0]
    apart = [group[0] for group in groups if left not in group and right not in group]
    return [("beside", start, link) for link in apart] + [("both", node)]


def opening_of(wiring, steps):
    """Return the opening order that the derivation gives when it is read backward."""
    nodes = [len(wiring.links) + step[1] for step in steps if step[0] in ("together", "both")]
    joints = web_of_wiring(wiring).joints
    return [place for place in nodes[::-1] + list(range(len(wiring.links))) if place in joints]
