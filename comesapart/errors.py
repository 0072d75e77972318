"""The errors that more than one module raises (point 3)."""


class ComesapartError(ValueError):
    """The base class of all errors that the program raises."""


class TooLarge(ComesapartError):
    """There are more items than the limit allows."""

    def __init__(self, limit):
        super().__init__(f"there are more than {limit}")
        self.limit = limit


class BadLine(ComesapartError):
    """A line of a text has a form or values that the text does not allow there."""

    def __init__(self, line):
        super().__init__(f"line {line} does not fit")
        self.line = line


class UnknownPlace(ComesapartError):
    """The web does not have the place."""

    def __init__(self, place):
        super().__init__(f"there is no place {place}")
        self.place = place


class UnknownSide(ComesapartError):
    """The place does not have the side."""

    def __init__(self, place, side):
        super().__init__(f"place {place} has no side {side}")
        self.place = place
        self.side = side


class BadSides(ComesapartError):
    """The place has too few or too many sides."""

    def __init__(self, place):
        super().__init__(f"place {place} has a wrong number of sides")
        self.place = place


class UnknownTie(ComesapartError):
    """The web does not have the tie."""

    def __init__(self, tie):
        super().__init__(f"there is no tie {tie}")
        self.tie = tie


class BadStep(ComesapartError):
    """The step with this index does not belong there."""

    def __init__(self, step):
        super().__init__(f"the step with the index {step} is wrong")
        self.step = step


class Repeated(ComesapartError):
    """The step with this index repeats a place or a tie."""

    def __init__(self, step):
        super().__init__(f"the step with the index {step} repeats a place or a tie")
        self.step = step


class UnknownPoint(ComesapartError):
    """There is no such point."""

    def __init__(self, point):
        super().__init__(f"there is no point {point}")
        self.point = point


class UnknownPair(ComesapartError):
    """There is no such pair, or it cannot be used any more."""

    def __init__(self, pair):
        super().__init__(f"there is no pair {pair} here")
        self.pair = pair


class SamePoint(ComesapartError):
    """Two points that must differ are equal."""

    def __init__(self, point):
        super().__init__(f"point {point} stands for both ends")
        self.point = point


class BadLink(ComesapartError):
    """The link with this index is wrong."""

    def __init__(self, link):
        super().__init__(f"link {link} is wrong")
        self.link = link


class BadNode(ComesapartError):
    """The node with this index is wrong."""

    def __init__(self, node):
        super().__init__(f"node {node} is wrong")
        self.node = node


class UnknownTerm(ComesapartError):
    """The wiring does not have the term."""

    def __init__(self, term):
        super().__init__(f"there is no term {term}")
        self.term = term


class NotATurningCycle(ComesapartError):
    """The steps are not a turning cycle."""


class NoLinks(ComesapartError):
    """A wiring without links is not allowed."""
