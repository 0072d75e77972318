"""Webs: places that have sides, and ties between the sides (points 4, 5 and 8)."""

from comesapart.errors import BadSides, TooLarge, UnknownPlace, UnknownSide, UnknownTie


def check_limits(sides, ties):
    """Raise TooLarge if a web cannot have so many places or ties."""
    if len(sides) > Web.MOST_PLACES:
        raise TooLarge(Web.MOST_PLACES)
    if len(ties) > Web.MOST_TIES:
        raise TooLarge(Web.MOST_TIES)


def check_sides(place, count):
    """Raise BadSides if the place cannot have this number of sides."""
    if count < 1 or count > Web.MOST_SIDES:
        raise BadSides(place)


def check_end(sides, place, side):
    """Raise UnknownPlace or UnknownSide if an end cannot be there."""
    if place not in range(len(sides)):
        raise UnknownPlace(place)
    if side not in range(sides[place]):
        raise UnknownSide(place, side)


def check_tie(sides, tie):
    """Raise the error of the first wrong end of the tie."""
    place, side, other, far_side = tie
    check_end(sides, place, side)
    check_end(sides, other, far_side)


def steps_by_place(sides, ties):
    """Return for each place the tuple of the steps that leave it, ascending."""
    leaving = [[] for _ in sides]
    for tie, ends in enumerate(ties):
        leaving[ends[0]].append((tie, 0))
        leaving[ends[2]].append((tie, 1))
    return tuple([tuple(steps) for steps in leaving])


class Web:
    """A web, which never changes."""

    MOST_PLACES = 200
    MOST_TIES = 300
    MOST_SIDES = 4

    def __init__(self, sides, ties):
        self.sides = tuple(sides)
        self.ties = tuple([tuple(tie) for tie in ties])
        check_limits(self.sides, self.ties)
        for place, count in enumerate(self.sides):
            check_sides(place, count)
        for tie in self.ties:
            check_tie(self.sides, tie)
        self._leaving = steps_by_place(self.sides, self.ties)
        self._joints = tuple([place for place in range(len(self.sides)) if len(self.used_sides(place)) > 1])

    def __contains__(self, place):
        return place in range(len(self.sides))

    def __iter__(self):
        return iter(self.ties)

    def __eq__(self, other):
        return isinstance(other, Web) and self.sides == other.sides and self.ties == other.ties

    def __add__(self, other):
        if not isinstance(other, Web):
            return NotImplemented
        shift = len(self.sides)
        moved = [(place + shift, side, far + shift, far_side) for place, side, far, far_side in other.ties]
        return Web(self.sides + other.sides, self.ties + tuple(moved))

    @property
    def joints(self):
        """The places with at least two used sides, ascending."""
        return self._joints

    @classmethod
    def empty(cls):
        """Return the web without places."""
        return cls([], [])

    @staticmethod
    def back(step):
        """Return the step that walks the same tie in the other direction."""
        tie, direction = step
        return (tie, 1 - direction)

    def tail(self, step):
        """Return the place and the side of the end by which the step leaves."""
        tie, direction = step
        if tie not in range(len(self.ties)):
            raise UnknownTie(tie)
        place, side, other, far_side = self.ties[tie]
        if direction == 0:
            return (place, side)
        return (other, far_side)

    def head(self, step):
        """Return the place and the side of the end by which the step enters."""
        tie, direction = step
        return self.tail((tie, 1 - direction))

    def steps_from(self, place):
        """Return all steps that leave the place, ascending."""
        if place not in self:
            raise UnknownPlace(place)
        return list(self._leaving[place])

    def used_sides(self, place):
        """Return the sides of the place that have an end, ascending."""
        return sorted({self.tail(step)[1] for step in self.steps_from(place)})
