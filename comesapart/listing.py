"""The sides of a web and their ends, counted and as a table."""


def end_counts(web):
    """Return for each place the list of the numbers of ends on its sides."""
    counts = [[0] * sides for sides in web.sides]
    for place, side, other, far_side in web.ties:
        counts[place][side] += 1
        counts[other][far_side] += 1
    return counts


def side_table(web):
    """Return for each place a row with its number, the numbers of ends on its sides, and whether it is a joint."""
    return [table_row(web, place, counts) for place, counts in enumerate(end_counts(web))]


def table_row(web, place, counts):
    """Return the row of one place."""
    row = "".join([f"{number:>4}" for number in [place] + counts])
    if place in web.joints:
        return row + " joint"
    return row
