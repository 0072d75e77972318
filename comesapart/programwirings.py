"""Programs and wirings: forced links, programs that are read from kinds, and applications (points 94 and 95)."""

from comesapart.errors import ComesapartError
from comesapart.inference import Forms, form_of_program, shape_of_form
from comesapart.kinds import Kind, is_arrow, letters_of
from comesapart.principal import principal_kind
from comesapart.programs import PLAIN_NAMES, places_of
from comesapart.standing import links_of_pairs, row_letters, row_nodes


class NotBalanced(ComesapartError):
    """A name of the kind does not occur at exactly two letters, a positive and a negative one."""


class NotAnArrow(ComesapartError):
    """The kind is not an arrow kind."""


def forced_links(kind):
    """Return the only links of the row of this one kind, ascending."""
    leaves = {letter: leaf for leaf, letter in enumerate(kind.letters)}
    if len(leaves) < len(kind.letters) or not all([(name, not positive) in leaves for name, positive in leaves]):
        raise NotBalanced("a name does not occur at exactly two letters, a positive and a negative one")
    return sorted([(leaf, leaves[(name, False)]) for (name, positive), leaf in leaves.items() if positive])


def program_of_kind(kind):
    """Return the program that is read from the kind, or None."""
    if not is_arrow(kind):
        raise NotAnArrow("the kind is not an arrow kind")
    mates = dict(forced_links(kind))
    names = {}
    program = read_program((kind.shape, 0), mates, {}, names)
    # No name is used twice, so all names are used if there are as many uses of names as names.
    if program is None or len([part for _, part in places_of(program) if part[0] == "name"]) < len(names):
        return None
    return program


def read_program(part, mates, bound, names):
    """Return the program that is read from a part of a kind, or None if it needs a name outside of its fun.

    A part is the tuple of a shape and its first leaf. Of bound and names, which are {last leaf of the kind of a name:
    ..}, the first one has the arguments of the names that are bound around the part, and the second one gets the names
    of all funs that are read.
    """
    parts, last = arguments_of(part)
    inside = dict(bound)
    funs = []
    for argument in parts:
        arguments, leaf = arguments_of(argument)
        inside[leaf] = arguments
        names[leaf] = PLAIN_NAMES[len(names)]
        funs.append(names[leaf])
    if mates[last] not in inside:
        return None
    body = ("name", names[mates[last]])
    for argument in inside[mates[last]]:
        program = read_program(argument, mates, inside, names)
        if program is None:
            return None
        body = ("use", body, program)
    for name in funs[::-1]:
        body = ("fun", name, body)
    return body


def arguments_of(part):
    """Return the parts for a, b, .. of the part for the kind a >> (b >> (.. >> p)), and its last leaf."""
    (word, first, second), start = part
    found = []
    while word != "letter":
        found.append((first, start))
        start += len(letters_of(first))
        word, first, second = second
    return (found, start)


def application(function, argument):
    """Return the row of the three kinds of an application, its links, and its cut."""
    taken, result = kinds_of_application(function, argument)
    row = [taken >> result, taken & ~result, result]
    count = len(row[0].letters)
    start = count + len(taken.letters)
    pairs = copy_pairs(principal_kind(function).shape, row[0].shape, 0)
    pairs.extend(copy_pairs(principal_kind(argument).shape, taken.shape, count))
    pairs.extend([(leaf, leaf + len(result.letters)) for leaf in range(start, 2 * count)])
    roots = row_nodes(row)[1]
    return (row, links_of_pairs(row_letters(row), pairs), (roots[0], roots[1]))


def kinds_of_application(function, argument):
    """Return the kind of the argument and the kind of the use of the function with the argument."""
    forms = Forms()
    taken, result = forms.arrow(form_of_program(forms, function, {}))
    forms.make_same(taken, form_of_program(forms, argument, {}))
    names = {}
    result_kind = Kind(shape_of_form(forms, result, names, True))
    return (Kind(shape_of_form(forms, taken, names, True)), result_kind)


def copy_pairs(shape, filled, start):
    """Return the pairs of leaves at the same places of the two kinds that are put in the place of each letter.

    The filled shape, whose first leaf is the start, arises from the shape, in which each name occurs twice.
    """
    copies = {}
    for name, part in put_parts(shape, filled):
        count = len(letters_of(part))
        copies.setdefault(name, []).append(list(range(start, start + count)))
        start += count
    return [pair for one, other in copies.values() for pair in zip(one, other)]


def put_parts(shape, filled):
    """Return the tuples (name, part) of the letters of the shape, with the part of the filled shape in their place."""
    found = []
    waiting = [(shape, filled)]
    while waiting:
        (word, first, second), part = waiting.pop()
        if word == "letter":
            found.append((first, part))
        else:
            waiting.extend([(second, part[2]), (first, part[1])])
    return found
