"""Exchanges of neighbouring steps, and the orders in which nodes can be built (point 67)."""

from comesapart.derivations import do_step, is_possible
from comesapart.errors import ComesapartError, TooLarge
from comesapart.wiringwebs import is_whole

MOST_NODES = 8


class NotSameSteps(ComesapartError):
    """The two lists do not have the same steps."""


def exchanges(first, second):
    """Return the positions of the exchanges that lead from the first list to the second one."""
    check_same_steps(first, second)
    current = list(first)
    found = []
    for index, step in enumerate(second):
        at = current.index(step)
        found.extend(list(range(index, at))[::-1])
        current.insert(index, current.pop(at))
    return found


def check_same_steps(first, second):
    """Raise NotSameSteps if a list has a step twice or a step that the other list does not have."""
    known = {step: True for step in first}
    met = {step: True for step in second}
    if len(known) < len(first) or len(met) < len(second) or len(known) != len(met):
        raise NotSameSteps("a list has a step twice, or the lists have different lengths")
    if not all([step in known for step in met]):
        raise NotSameSteps("the lists have different steps")


def node_orders(wiring):
    """Return all orders in which the nodes can be built when all links stand, ascending."""
    if len(wiring.nodes) > MOST_NODES:
        raise TooLarge(MOST_NODES)
    if not is_whole(wiring):
        return []
    pieces = {}
    for link in range(len(wiring.links)):
        do_step(wiring, pieces, ("link", link))
    return orders_behind(wiring, pieces, {})


def orders_behind(wiring, pieces, found):
    """Return all orders of the nodes that are in no piece, ascending; found keeps {such nodes: their orders}."""
    left = tuple([node for node in range(len(wiring.nodes)) if len(wiring.links) + node not in pieces])
    # The pieces depend only on the nodes that are built, so each set of nodes is looked at once.
    if left not in found:
        orders = [] if left else [[]]
        for node in left:
            step = (wiring.nodes[node][0], node)
            if is_possible(wiring, pieces, step):
                after = dict(pieces)
                do_step(wiring, after, step)
                orders.extend([[node] + order for order in orders_behind(wiring, after, found)])
        found[left] = orders
    return found[left]
