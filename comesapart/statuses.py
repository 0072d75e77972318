"""Signs of links, the statuses that they give the terms of a wiring, and choices of points (points 80 to 82)."""

from comesapart.errors import ComesapartError, TooLarge

MOST_LINKS = 6
SIGNS = (-1, 0, 1)
STATUSES = {1: "like", -1: "unlike", 0: "same"}
SIGNS_OF_WORDS = {"like": 1, "unlike": -1, "same": 0}
# Of the statuses of its parts, a node has the first one in this list.
FIRST_STATUSES = {"both": ("unlike", "like", "same"), "together": ("like", "unlike", "same")}


class BadSigns(ComesapartError):
    """The list is not one of signs of the wiring."""


class BadChoice(ComesapartError):
    """One of the two lists is not a choice of points for the links of the wiring."""


def check_signs(wiring, signs):
    """Raise BadSigns unless the list has a sign for each link and nothing else."""
    if len(signs) != len(wiring.links) or not all([sign in SIGNS for sign in signs]):
        raise BadSigns("the list does not have one sign for each link")


def statuses(wiring, signs):
    """Return the statuses of all terms in order."""
    check_signs(wiring, signs)
    found = ["same"] * wiring.leaves
    for sign, (first, second) in zip(signs, wiring.links):
        found[first] = STATUSES[sign]
        found[second] = STATUSES[-sign]
    for kind, left, right in wiring.nodes:
        parts = (found[left], found[right])
        found.append([status for status in FIRST_STATUSES[kind] if status in parts][0])
    return found


def roots_agree(wiring, signs):
    """Tell whether all signs are 0 or at least one root is like."""
    found = statuses(wiring, signs)
    return not any(list(signs)) or any([found[root] == "like" for root in wiring.roots])


def parting_signs(wiring):
    """Return all signs under which the roots do not agree, ascending."""
    if len(wiring.links) > MOST_LINKS:
        raise TooLarge(MOST_LINKS)
    lists = [[]]
    for _ in wiring.links:
        lists = [signs + [sign] for signs in lists for sign in SIGNS]
    return [signs for signs in lists if not roots_agree(wiring, signs)]


def signs_of(wiring, likeness, choice, other):
    """Return the signs that the two choices give."""
    for points in (choice, other):
        if len(points) != len(wiring.links) or not all([point in range(likeness.size) for point in points]):
            raise BadChoice("a list does not have one point for each link")
    return [SIGNS_OF_WORDS[likeness(point, far)] for point, far in zip(choice, other)]


def agree(wiring, likeness, choice, other):
    """Tell whether the two choices agree."""
    return roots_agree(wiring, signs_of(wiring, likeness, choice, other))
