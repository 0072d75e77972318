"""The skew table of a paired web, its Pfaffians, pairing sums and determinants (points 56 and 57)."""

from comesapart.couples import first_mates, greatest_mates, mates_after
from comesapart.errors import TooLarge, UnknownPoint
from comesapart.groups import neighbour_lists
from comesapart.pairings import pairings, ties_at_points
from comesapart.sums import Sum

MOST_ROWS = 6


def check_known(paired, points):
    """Raise UnknownPoint for the first number that is not a point."""
    for point in points:
        if point not in paired:
            raise UnknownPoint(point)


def entry(paired, i, j):
    """Return the entry of the skew table in row i and column j."""
    check_known(paired, [i, j])
    if i == j:
        return Sum([])
    sign = 1 if i < j else -1
    return Sum([(sign, (tie,)) for tie, ends in enumerate(paired.all_ties) if ends in ((i, j), (j, i))])


def crossing_sign(ties):
    """Return -1 if the number of crossings of the ties is odd, otherwise 1."""
    spans = [sorted(ends) for ends in ties]
    crossings = [1 for low, high in spans for start, end in spans if low < start < high < end]
    return -1 if len(crossings) % 2 == 1 else 1


def pfaffian(paired, points):
    """Return the Pfaffian of the points."""
    check_known(paired, points)
    around = neighbour_lists(points, paired.all_ties)
    joining = ties_at_points(points, paired.all_ties)
    mates = greatest_mates(around, first_mates(around))
    products = []
    # The definition by the first point, where it does not give zero: the points that are left have a pairing.
    waiting = [] if None in list(mates.values()) else [(1, (), list(points), mates)]
    while waiting:
        sign, weights, left, mates = waiting.pop()
        if not left:
            products.append((sign, weights))
            continue
        for other, rest in mates_after(around, mates, left[0]).items():
            at = left.index(other)
            further = left[1:at] + left[at + 1:]
            waiting.extend([(sign if at % 2 == 1 else -sign, weights + (tie,), further, rest)
                            for tie in joining[left[0]][other]])
    return Sum(products)


def pairing_sum(paired, points):
    """Return the sum over all pairings of the points of their weights, with the signs of their crossings."""
    check_known(paired, points)
    ties = paired.all_ties
    return Sum([(crossing_sign([ties[tie] for tie in chosen]), chosen) for chosen in pairings(points, ties)])


def determinant(paired, points):
    """Return the determinant of the rows and columns of the points."""
    if len(points) > MOST_ROWS:
        raise TooLarge(MOST_ROWS)
    check_known(paired, points)
    table = {(row, column): entry(paired, row, column) for row in points for column in points}
    return minor(table, tuple(points), tuple(points), {(): Sum.number(1)})


def minor(table, rows, columns, known):
    """Return the determinant of as many last rows as there are columns; the known ones are kept by their columns."""
    if columns not in known:
        total = Sum([])
        row = rows[-len(columns)]
        for at, column in enumerate(columns):
            if table[(row, column)]:
                part = table[(row, column)] * minor(table, rows, columns[:at] + columns[at + 1:], known)
                total = total + part if at % 2 == 0 else total - part
        known[columns] = total
    return known[columns]
