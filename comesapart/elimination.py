"""Working off pairs of a skew table of numbers without fractions.

After some pairs, the number in row i and column j is the Pfaffian of their points and of i and j, divided by the
Pfaffian of their points. Only the first of these two integers is kept in the table.
"""


def number_table(paired, weights, points):
    """Return the skew table of these points in this order; what stands under its diagonal is left 0."""
    places = {point: index for index, point in enumerate(points)}
    table = [[0] * len(points) for _ in points]
    for tie, (one, other) in enumerate(paired.all_ties):
        if one in places and other in places and one != other:
            low, high = sorted([places[one], places[other]])
            table[low][high] += weights[tie] if points[low] < points[high] else -weights[tie]
    return table


def pfaffians_along(paired, weights, order):
    """Return the Pfaffians of the first pairs of the order, of none of them first, up to the first that is 0."""
    table = number_table(paired, weights, [point for pair in order for point in (2 * pair, 2 * pair + 1)])
    found = [1]
    for first in range(0, len(table), 2):
        found.append(table[first][first + 1])
        if found[-1] == 0:
            break
        for row in range(first + 2, len(table)):
            table[row] = reduced(table, first, row, found[-2])
    return found


def reduced(table, first, row, before):
    """Return the row after the rows of the first pair have been worked off; Pfaffians before it were this number."""
    upper = table[first]
    lower = table[first + 1]
    scale = upper[first + 1]
    # The division is exact, because the result is a Pfaffian, too.
    if upper[row] == 0 and lower[row] == 0:
        return [scale * old // before if old != 0 else 0 for old in table[row]]
    above = upper[row]
    below = lower[row]
    return [0] * (row + 1) + [(scale * table[row][column] + below * upper[column] - above * lower[column]) // before
                              for column in range(row + 1, len(table))]
