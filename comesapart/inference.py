"""Finding out the kind of a program (point 93): forms that must be the same become the same, step by step.

A form has a number. It is an arrow between two other forms, or it is open and becomes a letter in the end.
"""

from comesapart.programs import PLAIN_NAMES


class Forms:
    """The forms that have been found. Those that have become the same have one leader, which is one of them."""

    def __init__(self):
        self._leaders = []
        self._arrows = {}

    def add_open(self):
        """Add an open form; return its number."""
        self._leaders.append(len(self._leaders))
        return len(self._leaders) - 1

    def add_arrow(self, left, right):
        """Add an arrow between two forms; return its number."""
        form = self.add_open()
        self._arrows[form] = (left, right)
        return form

    def leader(self, form):
        """Return the form that stands for all that have become the same as this one."""
        while self._leaders[form] != form:
            form = self._leaders[form]
        return form

    def arrow(self, form):
        """Return the two forms between which the form is an arrow, or None for an open form."""
        return self._arrows.get(self.leader(form))

    def make_same(self, one, other):
        """Make two forms the same, and then all those that must be the same for this reason."""
        waiting = [(one, other)]
        while waiting:
            first, second = [self.leader(form) for form in waiting.pop()]
            if self.arrow(first) is None:
                # What an arrow and an open form become is an arrow.
                first, second = second, first
            if first != second:
                self._leaders[second] = first
                if second in self._arrows:
                    waiting.extend(list(zip(self._arrows[first], self._arrows[second])))


def form_of_program(forms, program, bound):
    """Return the form of the program, where bound is {name: form} for the names that are bound around it."""
    if program[0] == "name":
        return bound[program[1]]
    if program[0] == "fun":
        form = forms.add_open()
        return forms.add_arrow(form, form_of_program(forms, program[2], {**bound, program[1]: form}))
    function = form_of_program(forms, program[1], bound)
    argument = form_of_program(forms, program[2], bound)
    result = forms.add_open()
    forms.make_same(function, forms.add_arrow(argument, result))
    return result


def shape_of_form(forms, form, names, positive):
    """Return the shape of the form, or of its opposite; names is {leader: name of its letter}.

    Letters that have no name yet get the next names of the alphabet, from left to right.
    """
    parts = forms.arrow(form)
    if parts is None:
        leader = forms.leader(form)
        if leader not in names:
            names[leader] = PLAIN_NAMES[len(names)]
        return ("letter", names[leader], positive)
    left = shape_of_form(forms, parts[0], names, not positive)
    right = shape_of_form(forms, parts[1], names, positive)
    return ("together" if positive else "both", left, right)
