"""Likenesses: points of which some are like and the others are unlike (point 79)."""

from comesapart.errors import TooLarge, UnknownPoint
from comesapart.lowhigh import in_order


def check_size(size):
    """Raise TooLarge if a likeness cannot have so many points."""
    if size > Likeness.MOST_POINTS:
        raise TooLarge(Likeness.MOST_POINTS)


def check_points(size, points):
    """Raise UnknownPoint for the first of the numbers that is not a point."""
    for point in points:
        if point not in range(size):
            raise UnknownPoint(point)


class Likeness:
    """A likeness, which never changes."""

    MOST_POINTS = 8

    def __init__(self, size, like):
        check_size(size)
        for pair in like:
            check_points(size, pair)
        self.size = size
        self._like = tuple(sorted({in_order(one, other) for one, other in like if one != other}))

    def __call__(self, one, other):
        check_points(self.size, (one, other))
        if one == other:
            return "same"
        return "like" if in_order(one, other) in self._like else "unlike"

    def __invert__(self):
        return Likeness(self.size, [(low, high) for high in range(self.size) for low in range(high)
                                    if (low, high) not in self._like])

    def __eq__(self, other):
        return isinstance(other, Likeness) and self.size == other.size and self._like == other._like

    @property
    def like_pairs(self):
        """The points that are like: tuples of two points, the lower one first, ascending."""
        return self._like

    @classmethod
    def three(cls):
        """Return the likeness of three points in which 0 and 1 are like, and 2 is unlike both."""
        return cls(3, [(0, 1)])
