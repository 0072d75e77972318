"""The groups of a graph (point 9)."""


def grouped(points, ties):
    """Return the groups of the graph, each ascending, in the order of their lowest points."""
    around = neighbour_lists(points, ties)
    groups = []
    met = {}
    for point in sorted(around):
        if point not in met:
            group = reached_points(around, point)
            for member in group:
                met[member] = True
            groups.append(sorted(group))
    return groups


def neighbour_lists(points, ties):
    """Return {point: the other ends of the ties at it}; ties with a foreign end are ignored."""
    around = {point: [] for point in points}
    for one, other in ties:
        if one in around and other in around:
            around[one].append(other)
            around[other].append(one)
    return around


def reached_points(around, start):
    """Return the points to which chains of neighbours lead from the start, which comes first."""
    found = [start]
    met = {start: True}
    at = 0
    while at < len(found):
        for other in around[found[at]]:
            if other not in met:
                met[other] = True
                found.append(other)
        at += 1
    return found
