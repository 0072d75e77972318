"""Couples: partial pairings of a graph as {point: its mate or None}, and the search for greater ones.

The search grows trees from all points without a mate. Outer points are reached over an even number of ties, inner
points over an odd number; where two outer points of one tree meet, the odd cycle that they close becomes a blossom,
all of whose points are outer.
"""


class Forest:
    """A search that grows from the points without a mate; it can be used once."""

    def __init__(self, around, mates):
        self.around = around
        self.mates = mates
        self.outer = {}
        # For a point that has a mate: the next point of a chain from the mate over this point to a root.
        self.above = {}
        self.base = {point: point for point in mates}
        self.waiting = []

    def grow(self):
        """Make one couple more, if that can be done, by changing the mates; tell whether it was done."""
        for point in self.mates:
            if self.mates[point] is None:
                self.make_outer(point)
        at = 0
        while at < len(self.waiting):
            point = self.waiting[at]
            for other in self.around[point]:
                if other in self.mates and self.use_tie(point, other):
                    return True
            at += 1
        return False

    def make_outer(self, point):
        """Let the search go on from the point."""
        self.outer[point] = True
        self.waiting.append(point)

    def use_tie(self, point, other):
        """Use the tie from an outer point to another point; tell whether this made one couple more."""
        if other not in self.outer:
            self.outer[other] = False
            self.above[other] = point
            self.make_outer(self.mates[other])
        elif self.outer[other] and self.base_of(point) != self.base_of(other):
            top = self.meeting(point, other)
            if top is None:
                self.couple(point, other)
                self.couple(other, point)
                return True
            self.shrink(point, other, top)
            self.shrink(other, point, top)
        return False

    def base_of(self, point):
        """Return the point at which the blossom of an outer point hangs on its tree."""
        while self.base[point] != point:
            self.base[point] = self.base[self.base[point]]
            point = self.base[point]
        return point

    def meeting(self, one, other):
        """Return the base at which the ways from two outer points to their roots meet, or None."""
        met = {}
        while one is not None or other is not None:
            if one is not None:
                one = self.base_of(one)
                if one in met:
                    return one
                met[one] = True
                mate = self.mates[one]
                one = None if mate is None else self.above[mate]
            one, other = other, one
        return None

    def shrink(self, point, other, top):
        """Put the way from the point up to the top into the blossom of the top; the tie to the other closes it."""
        while self.base_of(point) != top:
            self.above[point] = other
            other = self.mates[point]
            if not self.outer[other]:
                self.make_outer(other)
            for member in (point, other):
                if self.base[member] == member:
                    self.base[member] = top
            point = self.above[other]

    def couple(self, point, other):
        """Give the point the other one as its mate, and all points on the way to its root new mates."""
        lonely = self.mates[point]
        self.mates[point] = other
        while lonely is not None:
            point = self.above[lonely]
            after = self.mates[point]
            self.mates[lonely] = point
            self.mates[point] = lonely
            lonely = after


def first_mates(around):
    """Return mates in which no two points without a mate are tied."""
    mates = {point: None for point in around}
    for point in around:
        for other in around[point]:
            if other != point and mates[point] is None and mates[other] is None:
                mates[point] = other
                mates[other] = point
    return mates


def greatest_mates(around, mates):
    """Return mates with as many couples as possible, in which every point that had a mate has one."""
    found = {point: mates[point] for point in mates}
    while Forest(around, found).grow():
        # Each search starts from the couples that the one before it left.
        continue
    return found


def mates_without(around, mates, one, other):
    """Return mates of all points but two, where all points have mates; or None if that leaves a point without one."""
    left = {point: mates[point] for point in mates if point not in (one, other)}
    if mates[one] != other:
        left[mates[one]] = None
        left[mates[other]] = None
        if not Forest(around, left).grow():
            return None
    return left


def mates_after(around, mates, point):
    """Return {other: mates of the rest} for the points with which the point can be coupled so that all have mates."""
    found = {}
    for other in around[point]:
        if other in mates and other != point and other not in found:
            rest = mates_without(around, mates, point, other)
            if rest is not None:
                found[other] = rest
    return found


def ties_of_mates(ties, mates):
    """Return the lowest tie of each couple, ascending."""
    found = []
    met = {}
    for index, (one, other) in enumerate(ties):
        if one not in met and one in mates and mates[one] == other:
            met[one] = True
            met[other] = True
            found.append(index)
    return found
