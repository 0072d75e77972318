"""The desk: a web whose places and ties have names, edited step by step (points 96 to 102)."""

from comesapart.editions import first_edition, with_place, with_tie, without_place, without_tie
from comesapart.errors import BadLine, ComesapartError
from comesapart.openings import fault_in_order
from comesapart.search import cycle_by_dropping
from comesapart.texts import is_number, text_lines

COUNTS = {"place": 3, "tie": 4, "cut": 2, "remove": 2}


class NothingToUndo(ComesapartError):
    """No edit stands."""


class NothingToRedo(ComesapartError):
    """No edit has been taken back that could be made again."""


class Desk:
    """A desk. It keeps its editions, from the empty one to the present one, and those that can be made again."""

    def __init__(self):
        self._done = (first_edition(),)
        self._undone = ()

    @classmethod
    def replay(cls, text):
        """Return a new desk that has obeyed all lines of the text."""
        desk = cls()
        desk.obey_all(text_lines(text))
        return desk

    @property
    def web(self):
        """The web."""
        return self._done[-1].net

    @property
    def place_names(self):
        """The names of the places, in order."""
        return self._done[-1].place_labels

    @property
    def tie_names(self):
        """The names of the ties, in order."""
        return self._done[-1].tie_labels

    @property
    def order(self):
        """The kept order, a tuple of names of places or None."""
        return self._done[-1].kept

    @property
    def renewed(self):
        """True if the last edit that stands made the order anew."""
        return self._done[-1].anew

    @property
    def journal(self):
        """The lines of the edits that stand."""
        return "\n".join([edition.line for edition in self._done[1:]])

    def add_place(self, name, sides=2):
        """Add a place behind the others."""
        self._turn_to(with_place(self._done[-1], name, sides))

    def add_tie(self, name, one, side, other, far_side):
        """Add a tie behind the others."""
        self._turn_to(with_tie(self._done[-1], name, (one, side), (other, far_side)))

    def cut_tie(self, name):
        """Take a tie away."""
        self._turn_to(without_tie(self._done[-1], name))

    def remove_place(self, name):
        """Take a place away."""
        self._turn_to(without_place(self._done[-1], name))

    def _turn_to(self, edition):
        """Make the edition of a new edit the present one."""
        self._done = self._done + (edition,)
        self._undone = ()

    def undo(self):
        """Take back the last edit that stands."""
        if len(self._done) == 1:
            raise NothingToUndo("no edit stands")
        self._undone = self._undone + (self._done[-1],)
        self._done = self._done[:-1]

    def redo(self):
        """Make the edit again that was taken back last."""
        if not self._undone:
            raise NothingToRedo("no edit can be made again")
        self._done = self._done + (self._undone[-1],)
        self._undone = self._undone[:-1]

    def obey(self, line, number=1):
        """Make the edit of a line of a journal."""
        words = line.split(" ")
        if "" in words or len(words) != COUNTS.get(words[0], 0):
            raise BadLine(number)
        if words[0] == "place":
            self.add_place(words[1], number_in(words[2], number))
        elif words[0] == "tie":
            one, side = end_in(words[2], number)
            other, far_side = end_in(words[3], number)
            self.add_tie(words[1], one, side, other, far_side)
        elif words[0] == "cut":
            self.cut_tie(words[1])
        else:
            self.remove_place(words[1])

    def obey_all(self, lines):
        """Make the edits of several lines, or none of them."""
        with Batch(self):
            for index, line in enumerate(lines):
                self.obey(line, index + 1)

    def fault(self, names):
        """Return the index of the first name that opens no hinge when its turn comes, or None."""
        numbers = {name: place for place, name in enumerate(self.place_names)}
        return fault_in_order(self.web, [numbers.get(name, -1) for name in names])

    def verdict(self):
        """Return the word "apart" and the kept order, or the word "cycle" and a turning cycle with names of ties."""
        if self.order is not None:
            return ("apart", list(self.order))
        return ("cycle", [(self.tie_names[tie], direction) for tie, direction in cycle_by_dropping(self.web)])


def number_in(word, line):
    """Return the number that the word of the line writes."""
    if not is_number(word):
        raise BadLine(line)
    return int(word)


def end_in(word, line):
    """Return the name of the place and the side that the word of the line writes."""
    name, _, side = word.partition(":")
    # Without a colon the side is empty, and so it is no number.
    return (name, number_in(side, line))


class Batch:
    """A block of edits of a desk, of which an error that leaves the block lets none stand."""

    def __init__(self, desk):
        self.desk = desk
        self._done = ()
        self._undone = ()

    def __enter__(self):
        self._done = self.desk._done
        self._undone = self.desk._undone
        return self.desk

    def __exit__(self, kind, value, trace):
        desk = self.desk
        if kind is not None:
            desk._done = self._done
            desk._undone = self._undone
