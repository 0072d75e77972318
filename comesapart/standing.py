"""Rows of kinds, read as wirings: which kinds can stand for which (points 89 and 90)."""

from comesapart.errors import BadLink, TooLarge
from comesapart.search import cycle_by_dropping
from comesapart.trails import trail_links
from comesapart.wirings import Wiring, check_links
from comesapart.wiringwebs import is_sound, web_of_wiring

MOST_LETTERS = 12


def row_letters(kinds):
    """Return the letters of the kinds, which are the leaves of their row."""
    return [letter for kind in kinds for letter in kind.letters]


def row_nodes(kinds):
    """Return the nodes of the row of the kinds, and the list of the roots, one for each kind."""
    leaves = len(row_letters(kinds))
    nodes = []
    roots = []
    start = 0
    for kind in kinds:
        roots.append(add_nodes(kind.shape, start, leaves, nodes)[0])
        start += len(kind.letters)
    return (nodes, roots)


def add_nodes(shape, start, leaves, nodes):
    """Add the nodes of a shape whose first leaf is the start; return its term and the leaf behind its last one."""
    word, first, second = shape
    if word == "letter":
        return (start, start + 1)
    left, middle = add_nodes(first, start, leaves, nodes)
    right, end = add_nodes(second, middle, leaves, nodes)
    nodes.append((word, left, right))
    return (leaves + len(nodes) - 1, end)


def wiring_of_kinds(kinds, links):
    """Return the wiring of the row of kinds with these links."""
    letters = row_letters(kinds)
    check_row_links(letters, links)
    return Wiring(links, row_nodes(kinds)[0])


def check_row_links(letters, links):
    """Raise the first error of the links of a row with these letters."""
    check_links(links, len(letters))
    if 2 * len(links) < len(letters):
        raise BadLink(len(links))
    for index, (first, second) in enumerate(links):
        if letters[first] != (letters[second][0], True) or letters[second][1]:
            raise BadLink(index)


def check_count(kinds):
    """Raise TooLarge if the kinds have too many letters together."""
    if len(row_letters(kinds)) > MOST_LETTERS:
        raise TooLarge(MOST_LETTERS)


def all_links(kinds):
    """Return all ascending lists of links that make a wiring of the row of kinds, ascending."""
    check_count(kinds)
    letters = row_letters(kinds)
    positive = [leaf for leaf, letter in enumerate(letters) if letter[1]]
    negative = [leaf for leaf, letter in enumerate(letters) if not letter[1]]
    if len(positive) != len(negative) or not letters:
        return []
    lists = [[]]
    for leaf in positive:
        lists = [links + [(leaf, other)] for links in lists for other in negative
                 if letters[other][0] == letters[leaf][0] and other not in [link[1] for link in links]]
    return lists


def word_of(wiring):
    """Return the word "whole", "sound" or "barred" for the wiring."""
    if not is_sound(wiring):
        return "barred"
    return "whole" if len(wiring.links) == wiring.boths + 1 else "sound"


def standings(one, other):
    """Return the tuples of links and their word, for all links with which one kind could stand for the other."""
    row = [~one, other]
    return [(links, word_of(wiring_of_kinds(row, links))) for links in all_links(row)]


def barring_cycle(one, other, links):
    """Return a turning cycle of the web of the links, or None if they are not barred."""
    return cycle_by_dropping(web_of_wiring(wiring_of_kinds([~one, other], links)))


def can_stand_for(one, other, *, beside=False):
    """Tell whether some links are whole, or, if beside is True, whole or sound."""
    row = [~one, other]
    words = ("whole", "sound") if beside else ("whole",)
    for links in all_links(row):
        if word_of(wiring_of_kinds(row, links)) in words:
            return True
    return False


def links_of_pairs(letters, pairs):
    """Return the pairs of leaves as tuples of a positive and a negative leaf, ascending."""
    return sorted([(one, other) if letters[one][1] else (other, one) for one, other in pairs])


def plain_links(kind):
    """Return the plain links, ascending."""
    count = len(kind.letters)
    return links_of_pairs(row_letters([~kind, kind]), [(leaf, leaf + count) for leaf in range(count)])


def composed(one, middle, other, there, onward):
    """Return the composed links, ascending."""
    row = [~one, middle, ~middle, other]
    shift = len(one.letters) + len(middle.letters)
    moved = [(first + shift, second + shift) for first, second in onward]
    wiring = wiring_of_kinds(row, list(there) + moved)
    roots = row_nodes(row)[1]
    trails = trail_links(wiring, [(roots[1], roots[2])])
    # The outer leaves behind the two middle kinds follow on those before them.
    gap = 2 * len(middle.letters)
    pairs = [[leaf if leaf < len(one.letters) else leaf - gap for leaf in ends] for ends in trails]
    return links_of_pairs(row_letters([~one, other]), pairs)


def there_and_back(one, other):
    """Return all tuples of links there and links back that are not barred and whose composed links are plain."""
    found = []
    for there in all_links([~one, other]):
        back = back_links(one, there)
        if back is not None and is_sound(wiring_of_kinds([~one, other], there)):
            if is_sound(wiring_of_kinds([~other, one], back)):
                found.append((there, back))
    return found


def back_links(one, there):
    """Return the only links that may lead back, or None if there are none.

    A link between two leaves of one kind stays in the composed links, which then are not plain. All other links lead
    from a leaf of the one kind to one of the other kind, and the way back must end where it began.
    """
    count = len(one.letters)
    if any([(first < count) == (second < count) for first, second in there]):
        return None
    # Now both kinds have as many leaves, and on the way back they have changed places.
    return sorted([tuple([leaf + count if leaf < count else leaf - count for leaf in link])[::-1] for link in there])
