"""Walks and paths in a web (point 6)."""

from comesapart.errors import BadStep, UnknownPlace
from comesapart.webs import Web


def is_step(web, step):
    """Tell whether the step walks a tie of the web."""
    tie, direction = step
    return tie in range(len(web.ties)) and direction in (0, 1)


def turns(web, before, after):
    """Tell whether a walk turns between two steps, of which the second leaves where the first enters."""
    return web.head(before)[1] != web.tail(after)[1]


def reversed_steps(steps):
    """Return the steps that walk the same ties backward, the last one first."""
    return [Web.back(step) for step in list(steps)[::-1]]


def walk_places(web, start, steps):
    """Return the places that the walk meets, in order."""
    if start not in web:
        raise UnknownPlace(start)
    places = [start]
    for index, step in enumerate(steps):
        if not is_step(web, step) or web.tail(step)[0] != places[-1]:
            raise BadStep(index)
        places.append(web.head(step)[0])
    return places


def is_path(web, start, steps):
    """Tell whether the walk meets no place twice."""
    places = walk_places(web, start, steps)
    return len(set(places)) == len(places)


def is_turning_path(web, start, steps):
    """Tell whether the walk is a path that turns between all neighbouring steps."""
    if not is_path(web, start, steps):
        return False
    return all([turns(web, steps[index - 1], steps[index]) for index in range(1, len(steps))])
