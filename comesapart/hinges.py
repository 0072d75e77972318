"""Hinges among the shut joints of a web (points 28 and 29)."""

from comesapart.errors import ComesapartError
from comesapart.groups import grouped
from comesapart.shutting import hinges_in, shut_state


class NotAJoint(ComesapartError):
    """The place is not a joint of the web."""

    def __init__(self, place):
        super().__init__(f"place {place} is not a joint")
        self.place = place


class NotShut(ComesapartError):
    """The place is not one of the shut joints."""

    def __init__(self, place):
        super().__init__(f"place {place} is not shut")
        self.place = place


def check_joints(web, places):
    """Raise NotAJoint for the first of the places that is not a joint."""
    known = {joint: True for joint in web.joints}
    for place in places:
        if place not in known:
            raise NotAJoint(place)


def groups_without(web, shut, place):
    """Return the groups beside the place."""
    check_joints(web, shut)
    if place not in shut:
        raise NotShut(place)
    others = [other for other in shut if other != place]
    return grouped(others, [(tie[0], tie[2]) for tie in web.ties])


def touched_sides(web, group, place):
    """Return the sides of the place that the group touches, ascending."""
    members = {member: True for member in group}
    touching = [step for step in web.steps_from(place) if web.head(step)[0] in members]
    return sorted({web.tail(step)[1] for step in touching})


def has_turning_loop(web, place):
    """Tell whether a loop has its two ends on different sides of the place."""
    return any([tie[0] == place and tie[2] == place and tie[1] != tie[3] for tie in web.ties])


def is_hinge(web, shut, place):
    """Tell whether the place is a hinge of the shut joints."""
    groups = groups_without(web, shut, place)
    if has_turning_loop(web, place):
        return False
    return all([len(touched_sides(web, group, place)) < 2 for group in groups])


def hinges(web, shut):
    """Return all hinges of the shut joints, ascending."""
    check_joints(web, shut)
    return hinges_in(web, shut_state(web, shut))
