"""Paired webs: points that are joined in pairs, and free ties between them (point 10)."""

from comesapart.errors import TooLarge, UnknownPoint


class PairedWeb:
    """A paired web, which never changes."""

    MOST_PAIRS = 100
    MOST_FREE = 200

    def __init__(self, pairs, free):
        self.pairs = pairs
        self.free = tuple([tuple(tie) for tie in free])
        if self.pairs > PairedWeb.MOST_PAIRS:
            raise TooLarge(PairedWeb.MOST_PAIRS)
        if len(self.free) > PairedWeb.MOST_FREE:
            raise TooLarge(PairedWeb.MOST_FREE)
        for tie in self.free:
            for point in tie:
                if point not in self:
                    raise UnknownPoint(point)

    def __contains__(self, point):
        return point in range(2 * self.pairs)

    def __eq__(self, other):
        return isinstance(other, PairedWeb) and self.pairs == other.pairs and self.free == other.free

    @property
    def points(self):
        """The number of points."""
        return 2 * self.pairs

    @property
    def all_ties(self):
        """The pairs and behind them the free ties, each a tuple of two points."""
        return tuple([(2 * pair, 2 * pair + 1) for pair in range(self.pairs)]) + self.free

    @staticmethod
    def partner(point):
        """Return the other point of the pair."""
        return point ^ 1
