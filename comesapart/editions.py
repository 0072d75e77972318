"""Editions of a desk: what it holds after each edit (points 96, 97, 99 and 100)."""

from comesapart.errors import ComesapartError
from comesapart.groups import neighbour_lists, reached_points
from comesapart.openings import opening_order
from comesapart.webs import Web

MOST_SIGNS = 12


class BadLabel(ComesapartError):
    """The name has no valid form."""

    def __init__(self, name):
        super().__init__(f"{name} has no valid form")
        self.name = name


class NameTaken(ComesapartError):
    """Another place or another tie has the name."""

    def __init__(self, name):
        super().__init__(f"the name {name} is taken")
        self.name = name


class NoSuchName(ComesapartError):
    """No place or no tie has the name."""

    def __init__(self, name):
        super().__init__(f"nothing has the name {name}")
        self.name = name


class StillTied(ComesapartError):
    """An end of a tie is at the place."""

    def __init__(self, name):
        super().__init__(f"a tie is at the place {name}")
        self.name = name


class Edition:
    """What a desk holds, which never changes: a web and its names, the kept order and its mark, and the last edit.

    The last edit is written as a line of the journal.
    """

    def __init__(self, net, place_labels, tie_labels, kept, anew, line):
        self.net = net
        self.place_labels = place_labels
        self.tie_labels = tie_labels
        self.kept = kept
        self.anew = anew
        self.line = line


def first_edition():
    """Return the edition of a desk without places, which no edit has made."""
    return Edition(Web.empty(), (), (), (), False, "")


def edition_anew(net, place_labels, tie_labels, line):
    """Return an edition whose order is made anew."""
    order = opening_order(net)
    # The order opens all joints of the web exactly if the knot is empty.
    kept = tuple([place_labels[place] for place in order]) if len(order) == len(net.joints) else None
    return Edition(net, place_labels, tie_labels, kept, True, line)


def check_label(name):
    """Raise BadLabel unless the name has a valid form."""
    if len(name) not in range(1, MOST_SIGNS + 1):
        raise BadLabel(name)
    if not all(["a" <= sign <= "z" or "0" <= sign <= "9" for sign in name]):
        raise BadLabel(name)


def check_new_name(names, name):
    """Raise an error unless the name has a valid form and is none of the names."""
    check_label(name)
    if name in names:
        raise NameTaken(name)


def number_of(names, name):
    """Return the index of the name among the names."""
    if name not in names:
        raise NoSuchName(name)
    return names.index(name)


def without(items, index):
    """Return the tuple of all items but the one with the index."""
    return items[:index] + items[index + 1:]


def with_place(edition, name, sides):
    """Return the edition with one place more."""
    check_new_name(edition.place_labels, name)
    net = Web(edition.net.sides + (sides,), edition.net.ties)
    line = f"place {name} {sides}"
    return Edition(net, edition.place_labels + (name,), edition.tie_labels, edition.kept, False, line)


def without_place(edition, name):
    """Return the edition with one place less."""
    place = number_of(edition.place_labels, name)
    if edition.net.steps_from(place):
        raise StillTied(name)
    ties = []
    for one, side, other, far_side in edition.net.ties:
        ties.append((one if one < place else one - 1, side, other if other < place else other - 1, far_side))
    net = Web(without(edition.net.sides, place), ties)
    labels = without(edition.place_labels, place)
    return Edition(net, labels, edition.tie_labels, edition.kept, False, f"remove {name}")


def without_tie(edition, name):
    """Return the edition with one tie less."""
    tie = number_of(edition.tie_labels, name)
    net = Web(edition.net.sides, without(edition.net.ties, tie))
    labels = without(edition.tie_labels, tie)
    line = f"cut {name}"
    if edition.kept is None:
        return edition_anew(net, edition.place_labels, labels, line)
    joints = labels_of(edition, net.joints)
    kept = tuple([place for place in edition.kept if place in joints])
    return Edition(net, edition.place_labels, labels, kept, False, line)


def with_tie(edition, name, near_end, far_end):
    """Return the edition with one tie more, whose ends are tuples of the name of a place and a side."""
    check_new_name(edition.tie_labels, name)
    place = number_of(edition.place_labels, near_end[0])
    other = number_of(edition.place_labels, far_end[0])
    net = Web(edition.net.sides, edition.net.ties + ((place, near_end[1], other, far_end[1]),))
    labels = edition.tie_labels + (name,)
    line = f"tie {name} {near_end[0]}:{near_end[1]} {far_end[0]}:{far_end[1]}"
    if edition.kept is None:
        return Edition(net, edition.place_labels, labels, None, False, line)
    if is_chained(edition.net, place, other):
        return edition_anew(net, edition.place_labels, labels, line)
    known = edition.net.joints
    added = labels_of(edition, [joint for joint in net.joints if joint not in known])
    return Edition(net, edition.place_labels, labels, added + edition.kept, False, line)


def labels_of(edition, places):
    """Return the tuple of the names of the places."""
    return tuple([edition.place_labels[place] for place in places])


def is_chained(net, place, other):
    """Tell whether a chain of ties, perhaps of none, leads from the one place to the other one."""
    around = neighbour_lists(list(range(len(net.sides))), [(ends[0], ends[2]) for ends in net.ties])
    return other in reached_points(around, place)
