"""Taking a web apart: opening orders, waves and the knot (points 30 and 31)."""

from comesapart.hinges import groups_without, is_hinge
from comesapart.shutting import hinges_in, shut_state, state_after


def opening_order(web):
    """Return the lowest opening order."""
    order = []
    state = shut_state(web, web.joints)
    ready = hinges_in(web, state)
    while ready:
        order.append(ready[0])
        state = state_after(web, state, [ready[0]])
        ready = hinges_in(web, state)
    return order


def waves(web):
    """Return the waves in order."""
    found = []
    state = shut_state(web, web.joints)
    ready = hinges_in(web, state)
    while ready:
        found.append(ready)
        state = state_after(web, state, ready)
        ready = hinges_in(web, state)
    return found


def knot(web):
    """Return the joints that stay shut in the end, ascending."""
    # Every order that cannot be continued leaves the same joints shut, and the waves are the quickest one.
    opened = {place: True for wave in waves(web) for place in wave}
    return [joint for joint in web.joints if joint not in opened]


def fault_in_order(web, order):
    """Return None for an opening order, otherwise the index of its first entry that cannot be opened."""
    shut = list(web.joints)
    for index, place in enumerate(order):
        if place not in shut or not is_hinge(web, shut, place):
            return index
        shut.remove(place)
    return None


def openings(web):
    """Yield each place of the lowest opening order with the groups beside it just before it is opened."""
    shut = list(web.joints)
    for place in opening_order(web):
        yield (place, groups_without(web, shut, place))
        shut.remove(place)
