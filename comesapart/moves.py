"""Pairs of leaves, and moves that remove some of them (points 68 to 70)."""

from comesapart.derivations import do_step, parts_of
from comesapart.errors import ComesapartError
from comesapart.groups import grouped
from comesapart.lowhigh import in_order
from comesapart.wirings import Wiring

LISTS = {"switch": 3, "part": 2}


class BadMove(ComesapartError):
    """The move does not have one of the two forms, or one of its conditions does not hold."""


class NoTerm(ComesapartError):
    """No wiring with these links and one root has these both pairs."""


def both_pairs(wiring):
    """Return the pairs of leaves that meet at a both, ascending."""
    found = []
    for kind, left, right in wiring.nodes:
        if kind == "both":
            found.extend(pairs_between(wiring.leaves_under(left), wiring.leaves_under(right)))
    return sorted(found)


def heap_pairs(links):
    """Return all pairs of leaves that are not linked, ascending."""
    linked = {in_order(one, other): True for one, other in links}
    pairs = all_pairs(list(range(2 * len(links))))
    return [pair for pair in pairs if pair not in linked]


def all_pairs(leaves):
    """Return all pairs of the leaves, an ascending list, in ascending order."""
    return [(leaf, other) for at, leaf in enumerate(leaves) for other in leaves[at + 1:]]


def pairs_between(leaves, others):
    """Return the pairs of one of the leaves with one of the others."""
    return [in_order(leaf, other) for leaf in leaves for other in others]


def moved(leaves, pairs, move):
    """Return the list of pairs after the move."""
    word, *lists = move
    if word not in LISTS or len(lists) != LISTS[word]:
        raise BadMove("the move has neither of the two forms")
    check_lists(leaves, lists)
    known = {tuple(pair): True for pair in pairs}
    check_outside(leaves, known, lists)
    if word == "switch":
        check_apart(known, lists[0], lists[1])
        check_paired(known, lists[1], lists[2])
    check_paired(known, lists[0], lists[-1])
    gone = {pair: True for pair in pairs_between(lists[0], lists[-1])}
    return [tuple(pair) for pair in pairs if tuple(pair) not in gone]


def check_lists(leaves, lists):
    """Raise BadMove unless the lists are ascending lists of different leaves, not empty, without a common leaf."""
    met = {}
    for members in lists:
        if len(members) == 0 or list(members) != sorted(members):
            raise BadMove("a list is empty or not ascending")
        for leaf in members:
            if leaf not in range(leaves) or leaf in met:
                raise BadMove("a list has a number that is no leaf or that stands there before")
            met[leaf] = True


def check_outside(leaves, known, lists):
    """Raise BadMove if a leaf outside of the lists is in pairs with some of their leaves, but not with all."""
    inside = [leaf for members in lists for leaf in members]
    for leaf in range(leaves):
        if leaf not in inside:
            count = len([other for other in inside if in_order(leaf, other) in known])
            if count not in (0, len(inside)):
                raise BadMove("a leaf outside of the lists is in pairs with some of their leaves")


def check_apart(known, leaves, others):
    """Raise BadMove if one of the leaves is in a pair with one of the others."""
    if any([pair in known for pair in pairs_between(leaves, others)]):
        raise BadMove("two leaves that must be apart are a pair")


def check_paired(known, leaves, others):
    """Raise BadMove unless each of the leaves is in a pair with each of the others."""
    if not all([pair in known for pair in pairs_between(leaves, others)]):
        raise BadMove("two leaves that must be a pair are apart")


def moves_of(wiring, steps):
    """Return the moves along the derivation, in the order of its steps."""
    pieces = {}
    moves = []
    for step in steps:
        if step[0] == "both":
            moves.extend(moves_of_both(wiring, pieces, step[1]))
        if step[0] == "beside":
            moves.append(("part", leaves_of_piece(wiring, pieces, step[1]), leaves_of_piece(wiring, pieces, step[2])))
        do_step(wiring, pieces, step)
    return moves


def leaves_of_piece(wiring, pieces, place):
    """Return the leaves of the piece of a place, ascending."""
    links = [link for link in range(len(wiring.links)) if link in pieces and pieces[link] == pieces[place]]
    return sorted([leaf for link in links for leaf in wiring.links[link]])


def moves_of_both(wiring, pieces, node):
    """Return the moves of the step that builds a both."""
    left_place, right_place = parts_of(wiring, node)
    left_leaves = leaves_of_piece(wiring, pieces, left_place)
    right_leaves = leaves_of_piece(wiring, pieces, right_place)
    _, left, right = wiring.nodes[node]
    moves = [switch_beside(left_leaves, wiring.leaves_under(left), right_leaves),
             switch_beside(right_leaves, wiring.leaves_under(right), wiring.leaves_under(left))]
    return [move for move in moves if move[1]]


def switch_beside(leaves, kept, others):
    """Return the switch that parts the leaves, except for those that are kept, from the others."""
    return ("switch", [leaf for leaf in leaves if leaf not in kept], kept, others)


def wiring_of_pairs(links, pairs):
    """Return a wiring with these links and one root whose both pairs are the pairs."""
    leaves = list(range(Wiring(links, []).leaves))
    wiring = Wiring(links, nodes_over(leaves, pairs))
    if both_pairs(wiring) != sorted([tuple(pair) for pair in pairs]):
        raise NoTerm("no wiring has these both pairs")
    return wiring


def nodes_over(leaves, pairs):
    """Return nodes with one root over the leaves; its both pairs are the pairs if any nodes have these pairs."""
    nodes = []
    build_root(leaves, pairs, len(leaves), nodes)
    return nodes


def build_root(members, pairs, leaves, nodes):
    """Add nodes until there is one root over the members; return its term."""
    if len(members) == 1:
        return members[0]
    kind, groups = split(members, pairs)
    roots = [build_root(group, pairs, leaves, nodes) for group in groups]
    term = roots[0]
    for other in roots[1:]:
        nodes.append((kind, term, other))
        term = leaves + len(nodes) - 1
    return term


def split(members, pairs):
    """Return a kind of nodes and the groups of members that nodes of this kind join."""
    groups = grouped(members, pairs)
    if len(groups) > 1:
        return ("together", groups)
    known = {tuple(pair): True for pair in pairs}
    groups = grouped(members, [pair for pair in all_pairs(members) if pair not in known])
    if len(groups) > 1:
        return ("both", groups)
    raise NoTerm("no node is the root over these leaves")
