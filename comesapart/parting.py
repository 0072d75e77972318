"""Short cycles, and the choices that part the roots of a wiring that is not sound (points 83 to 85)."""

from comesapart.cycles import cycle_places, is_turning_cycle, normal_cycle
from comesapart.errors import NotATurningCycle, TooLarge
from comesapart.paths import reversed_steps
from comesapart.search import cycle_by_dropping
from comesapart.wiringwebs import place_of, web_of_wiring

MOST_LINKS = 4
# In the likeness of three points, 0 and 1 are like, and 0 and 2 are unlike.
POINTS_OF_SIGNS = {0: 0, 1: 1, -1: 2}


def check_cycle(web, steps):
    """Raise NotATurningCycle unless the steps are a turning cycle of the web."""
    if not is_turning_cycle(web, steps):
        raise NotATurningCycle("the steps are not a turning cycle")


def shortened(wiring, steps):
    """Return a short cycle that meets at most as many places of links as the cycle."""
    web = web_of_wiring(wiring)
    check_cycle(web, steps)
    cycle = list(steps)
    shortcut = find_shortcut(wiring, web, cycle)
    while shortcut is not None:
        cycle = cycle_with_shortcut(web, cycle, shortcut)
        shortcut = find_shortcut(wiring, web, cycle)
    return normal_cycle(cycle)


def find_shortcut(wiring, web, cycle):
    """Return steps that lead up to a node that the cycle passes straight from a node of its other part, or None.

    They start at a place of the cycle and meet no other one before their end. A short cycle has no such steps.
    """
    met = {place: True for place in cycle_places(web, cycle)}
    walked = {tie: True for tie, _ in cycle}
    for node in range(len(wiring.nodes)):
        # The tie at the lower side of a node is that of the part that the node is.
        parent = wiring.parent(wiring.leaves + node)
        if parent is not None and part_tie(wiring, wiring.leaves + node) in walked:
            for part in wiring.nodes[node][1:]:
                steps = [] if part_tie(wiring, part) in walked else steps_up(wiring, met, part)
                if steps:
                    return steps
    return None


def part_tie(wiring, term):
    """Return the tie between a part and its node."""
    node = wiring.parent(term)
    return 2 * node + (0 if wiring.nodes[node][1] == term else 1)


def steps_up(wiring, met, part):
    """Return the steps to the node above the part from one of the part's nodes that is met, or an empty list.

    No node between the two is met.
    """
    waiting = [(part, [])]
    while waiting:
        term, above = waiting.pop()
        if term >= wiring.leaves:
            steps = [(part_tie(wiring, term), 0)] + above
            if place_of(wiring, term)[0] in met:
                return steps
            waiting.extend([(under, steps) for under in wiring.nodes[term - wiring.leaves][1:]])
    return []


def cycle_with_shortcut(web, cycle, shortcut):
    """Return a turning cycle of the shortcut and of one of the two ways along the cycle between its ends.

    Each of the two ways meets the place of a link, so the new cycle meets fewer such places.
    """
    places = cycle_places(web, cycle)
    start = places.index(web.tail(shortcut[0])[0])
    goal = places.index(web.head(shortcut[-1])[0])
    turned = cycle[goal:] + cycle[:goal]
    count = (start - goal) % len(cycle)
    one = turned[:count] + shortcut
    return one if is_turning_cycle(web, one) else turned[count:] + reversed_steps(shortcut)


def signs_of_cycle(wiring, steps):
    """Return the signs of the cycle."""
    web = web_of_wiring(wiring)
    check_cycle(web, steps)
    sides = {place: side for place, side in [web.tail(step) for step in steps]}
    return [1 - 2 * sides[link] if link in sides else 0 for link in range(len(wiring.links))]


def parting_choices(wiring):
    """Return None for a sound wiring, otherwise two choices of the likeness of three points that do not agree."""
    cycle = cycle_by_dropping(web_of_wiring(wiring))
    if cycle is None:
        return None
    signs = signs_of_cycle(wiring, shortened(wiring, cycle))
    return ([0] * len(signs), [POINTS_OF_SIGNS[sign] for sign in signs])


def results(wiring, size):
    """Return all results over this number of points, ascending."""
    if len(wiring.links) > MOST_LINKS:
        raise TooLarge(MOST_LINKS)
    choices = [[]]
    for _ in wiring.links:
        choices = [choice + [point] for choice in choices for point in range(size)]
    return sorted([[choice[wiring.link_of(leaf)] for leaf in range(wiring.leaves)] for choice in choices])
