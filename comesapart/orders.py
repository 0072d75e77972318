"""All opening orders of a web: what must precede what, and how many there are (points 32 and 33)."""

from comesapart.errors import ComesapartError, TooLarge
from comesapart.hinges import check_joints, hinges
from comesapart.openings import knot, waves
from comesapart.shutting import hinges_in, shut_state, state_after

MOST_JOINTS = 10


class NeverOpened(ComesapartError):
    """The joint is in the knot."""

    def __init__(self, place):
        super().__init__(f"place {place} is never opened")
        self.place = place


def check_opened(web, place):
    """Raise NeverOpened if the joint is in the knot."""
    if place in knot(web):
        raise NeverOpened(place)


def opens_without(web, state, held, place):
    """Tell whether the place is opened from this state on if the held joint stays shut."""
    ready = [joint for joint in hinges_in(web, state) if joint != held]
    while ready and place not in ready:
        state = state_after(web, state, ready)
        ready = [joint for joint in hinges_in(web, state) if joint != held]
    return place in ready


def must_precede(web, first, second):
    """Tell whether every opening order that opens the second joint opens the first one before it."""
    check_joints(web, [first, second])
    check_opened(web, second)
    return first != second and not opens_without(web, shut_state(web, web.joints), first, second)


def forerunners(web, place):
    """Return the joints that must precede the place, ascending."""
    check_joints(web, [place])
    check_opened(web, place)
    found = []
    state = shut_state(web, web.joints)
    for wave in waves(web):
        # What is opened in the same wave or later need not come first.
        if place in wave:
            break
        found.extend([joint for joint in wave if not opens_without(web, state, joint, place)])
        state = state_after(web, state, wave)
    return sorted(found)


def order_layers(web):
    """Return, for each number of opened joints, {openable set: the number of its opening orders}."""
    if len(web.joints) > MOST_JOINTS:
        raise TooLarge(MOST_JOINTS)
    layers = []
    layer = {(): 1}
    while layer:
        layers.append(layer)
        layer = next_layer(web, layer)
    return layers


def next_layer(web, layer):
    """Return the layer of the openable sets with one joint more."""
    longer = {}
    for opened, count in layer.items():
        for place in hinges(web, [joint for joint in web.joints if joint not in opened]):
            larger = tuple(sorted(opened + (place,)))
            longer[larger] = longer.get(larger, 0) + count
    return longer


def openable_sets(web):
    """Return all openable sets, shorter ones first, those of equal length ascending."""
    return [list(opened) for layer in order_layers(web) for opened in sorted(layer)]


def count_orders(web):
    """Return the number of opening orders that open all joints outside the knot."""
    # Orders that cannot be continued open the same joints, so the last layer has one set.
    return sum(list(order_layers(web)[-1].values()))
