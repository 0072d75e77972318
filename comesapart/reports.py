"""The table of a desk (point 103)."""

from comesapart.openings import opening_order


def desk_table(desk):
    """Return the rows of the table."""
    positions = positions_of(desk)
    rows = []
    for place, name in enumerate(desk.place_names):
        # A loop has two steps that leave its place.
        ends = len(desk.web.steps_from(place))
        position = positions.get(name, "-")
        rows.append(f"{name:<12}{desk.web.sides[place]:>2}{ends:>4}{position:>6}")
    return rows


def positions_of(desk):
    """Return {name of a joint: its position in the order from 1 on, or the word "knot"}."""
    names = desk.place_names
    order = [names[place] for place in opening_order(desk.web)] if desk.order is None else desk.order
    positions = {names[joint]: "knot" for joint in desk.web.joints}
    for index, name in enumerate(order):
        positions[name] = index + 1
    return positions
