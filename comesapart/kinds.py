"""Kinds: letters, and the boths and togethers of kinds (points 86 and 87)."""

from comesapart.errors import ComesapartError, TooLarge

MOST_SIGNS = 8
OPPOSITES = {"both": "together", "together": "both"}


class BadName(ComesapartError):
    """The string is not a name."""

    def __init__(self, name):
        super().__init__(f"{name} is not a name")
        self.name = name


def check_name(name):
    """Raise BadName unless the string is a name."""
    if not (name.isascii() and name.isalpha() and name.islower()) or len(name) > MOST_SIGNS:
        raise BadName(name)


def letters_of(shape):
    """Return the tuples (name, positive) of the letters of the shape, from left to right."""
    found = []
    waiting = [shape]
    while waiting:
        word, first, second = waiting.pop()
        if word == "letter":
            found.append((first, second))
        else:
            waiting.extend([second, first])
    return found


def opposite_shape(shape):
    """Return the shape with the signs of all letters changed, and with both and together exchanged."""
    word, first, second = shape
    if word == "letter":
        return (word, first, not second)
    return (OPPOSITES[word], opposite_shape(first), opposite_shape(second))


class Kind:
    """A kind, which never changes."""

    MOST_LETTERS = 40

    def __init__(self, shape):
        self.shape = shape
        self._letters = tuple(letters_of(shape))
        if len(self._letters) > Kind.MOST_LETTERS:
            raise TooLarge(Kind.MOST_LETTERS)
        for name, _ in self._letters:
            check_name(name)

    def __invert__(self):
        return Kind(opposite_shape(self.shape))

    def __and__(self, other):
        if not isinstance(other, Kind):
            return NotImplemented
        return Kind(("both", self.shape, other.shape))

    def __or__(self, other):
        if not isinstance(other, Kind):
            return NotImplemented
        return Kind(("together", self.shape, other.shape))

    def __rshift__(self, other):
        if not isinstance(other, Kind):
            return NotImplemented
        return Kind(("together", opposite_shape(self.shape), other.shape))

    def __eq__(self, other):
        return isinstance(other, Kind) and self.shape == other.shape

    @property
    def letters(self):
        """The tuples (name, positive) of the letters, from left to right."""
        return self._letters

    @classmethod
    def letter(cls, name):
        """Return the kind that is one positive letter."""
        return cls(("letter", name, True))


def is_arrow(kind):
    """Tell whether the kind is an arrow kind."""
    waiting = [(kind.shape, True)]
    while waiting:
        (word, first, second), positive = waiting.pop()
        if word == "letter":
            if second != positive:
                return False
        elif word != ("together" if positive else "both"):
            return False
        else:
            waiting.extend([(first, not positive), (second, positive)])
    return True


def alike(one, other):
    """Tell whether one kind becomes the other when parts change places and brackets of one sign are moved."""
    return plain_form(one.shape) == plain_form(other.shape)


def plain_form(shape):
    """Return a text that two shapes share exactly if their kinds are alike."""
    word, first, second = shape
    if word == "letter":
        return first if second else first + "-"
    # The parts of all nodes of this word that are joined to one another stand side by side, in a fixed order.
    parts = []
    waiting = [first, second]
    while waiting:
        part = waiting.pop()
        if part[0] == word:
            waiting.extend([part[1], part[2]])
        else:
            parts.append(plain_form(part))
    return word + "(" + " ".join(sorted(parts)) + ")"
