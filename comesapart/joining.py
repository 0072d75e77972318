"""Joining: opposite roots of a wiring are cut, and the cuts are worked off (points 72 to 76)."""

from comesapart.errors import ComesapartError, UnknownTerm
from comesapart.lowhigh import in_order
from comesapart.webs import Web
from comesapart.wirings import Wiring


class BadCut(ComesapartError):
    """The cut with this index is wrong."""

    def __init__(self, cut):
        super().__init__(f"cut {cut} is wrong")
        self.cut = cut


class Locked(ComesapartError):
    """The cut of a state is locked."""

    def __init__(self, cut):
        super().__init__(f"the cut {cut} is locked")
        self.cut = cut


class NoSuchCut(ComesapartError):
    """The state does not have the cut."""


class Nothing(ComesapartError):
    """Every root is in a cut, so nothing is left."""


def are_opposite(wiring, one, other):
    """Tell whether two terms are opposite."""
    for term in (one, other):
        if term not in wiring:
            raise UnknownTerm(term)
    waiting = [(one, other)]
    while waiting:
        low, high = sorted(waiting.pop())
        if high >= wiring.leaves:
            if low < wiring.leaves or kind_of(wiring, low) == kind_of(wiring, high):
                return False
            waiting.extend(opposite_parts(wiring, low, high))
    return True


def kind_of(wiring, term):
    """Return the kind of the node that the term is."""
    return wiring.nodes[term - wiring.leaves][0]


def opposite_parts(wiring, one, other):
    """Return the tuples of the left parts and of the right parts of two nodes, the lower term first."""
    _, left, right = wiring.nodes[one - wiring.leaves]
    _, far_left, far_right = wiring.nodes[other - wiring.leaves]
    return [in_order(left, far_left), in_order(right, far_right)]


def check_cuts(wiring, cuts):
    """Raise BadCut for the first cut that does not join two opposite roots that are in no earlier cut."""
    free = {root: True for root in wiring.roots}
    for index, (one, other) in enumerate(cuts):
        if one not in free or other not in free or one == other or not are_opposite(wiring, one, other):
            raise BadCut(index)
        del free[one], free[other]


def first_state(wiring, cuts):
    """Return the state with these cuts and the links of the wiring."""
    check_cuts(wiring, cuts)
    return (tuple(sorted([in_order(one, other) for one, other in cuts])),
            tuple(sorted([in_order(first, second) for first, second in wiring.links])))


def is_locked(state, cut):
    """Tell whether the terms of the cut are two leaves that are linked to one another."""
    # Only leaves have numbers that links have.
    return cut in state[1]


def open_cuts(state):
    """Return the cuts of the state that are not locked, ascending."""
    return [cut for cut in state[0] if not is_locked(state, cut)]


def next_state(wiring, state, cut):
    """Return the state behind working off the cut."""
    cuts, links = state
    if cut not in cuts:
        raise NoSuchCut("the state does not have the cut")
    if is_locked(state, cut):
        raise Locked(cut)
    left = [other for other in cuts if other != cut]
    if cut[0] >= wiring.leaves:
        return (tuple(sorted(left + opposite_parts(wiring, cut[0], cut[1]))), links)
    ends = [end for link in links if cut[0] in link or cut[1] in link for end in link if end not in cut]
    kept = [link for link in links if cut[0] not in link and cut[1] not in link]
    return (tuple(left), tuple(sorted(kept + [in_order(ends[0], ends[1])])))


def last_state(wiring, cuts, picks):
    """Return the tuple of the last state, where the picks tell which cuts are worked off, and the number of steps."""
    state = first_state(wiring, cuts)
    steps = 0
    ready = open_cuts(state)
    while ready:
        pick = picks[steps] if steps < len(picks) else 0
        state = next_state(wiring, state, ready[pick % len(ready)])
        steps += 1
        ready = open_cuts(state)
    return (state, steps)


def joined(wiring, cuts):
    """Return the joined wiring."""
    state, _ = last_state(wiring, cuts, [])
    cut_roots = {term: True for cut in cuts for term in cut}
    if len(cut_roots) == len(wiring.roots):
        raise Nothing("every root is in a cut")
    if state[0]:
        raise Locked(state[0][0])
    kept_roots = [root for root in wiring.roots if root not in cut_roots]
    leaves = sorted([leaf for root in kept_roots for leaf in wiring.leaves_under(root)])
    numbers = {leaf: index for index, leaf in enumerate(leaves)}
    nodes = []
    for term in nodes_under(wiring, kept_roots):
        kind, left, right = wiring.nodes[term - wiring.leaves]
        numbers[term] = len(leaves) + len(nodes)
        nodes.append((kind, numbers[left], numbers[right]))
    return Wiring([(numbers[low], numbers[high]) for low, high in state[1]], nodes)


def nodes_under(wiring, terms):
    """Return the terms of all nodes that are under one of the terms, ascending."""
    found = []
    waiting = list(terms)
    while waiting:
        term = waiting.pop()
        if term >= wiring.leaves:
            found.append(term)
            waiting.extend(wiring.nodes[term - wiring.leaves][1:])
    return sorted(found)


def uncut_roots(wiring, state):
    """Return the roots that were in no cut of the first state, ascending."""
    cuts, links = state
    under_cuts = {leaf: True for cut in cuts for term in cut for leaf in wiring.leaves_under(term)}
    outer = {leaf: True for link in links for leaf in link if leaf not in under_cuts}
    # The leaves under a root that was cut are still under a cut, or their links are gone.
    return [root for root in wiring.roots if wiring.leaves_under(root)[0] in outer]


def web_of_state(wiring, state):
    """Return the web of the state."""
    cuts, links = state
    nodes = nodes_under(wiring, [term for cut in cuts for term in cut] + uncut_roots(wiring, state))
    lower_ends = {leaf: (place, side) for place, link in enumerate(links) for side, leaf in enumerate(link)}
    sides = [2] * len(links)
    for term in nodes:
        sides.append(3 if kind_of(wiring, term) == "both" else 2)
        lower_ends[term] = (len(sides) - 1, sides[-1] - 1)
    ties = []
    for place, term in enumerate(nodes, start=len(links)):
        kind, left, right = wiring.nodes[term - wiring.leaves]
        ties.append(lower_ends[left] + (place, 0))
        ties.append(lower_ends[right] + (place, 1 if kind == "both" else 0))
    ties.extend([lower_ends[low] + lower_ends[high] for low, high in cuts])
    return Web(sides, ties)
