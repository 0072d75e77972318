"""Settings of a wiring: which part each together keeps (point 63)."""

from comesapart.cycles import is_turning_cycle
from comesapart.errors import ComesapartError, NotATurningCycle, TooLarge
from comesapart.groups import grouped
from comesapart.runs import walk_back
from comesapart.wiringwebs import web_of_wiring

MOST_TOGETHERS = 10


class BadSetting(ComesapartError):
    """The list is not a setting of the wiring."""


def togethers_of(wiring):
    """Return the indexes of the togethers, ascending."""
    return [index for index, node in enumerate(wiring.nodes) if node[0] == "together"]


def settings(wiring):
    """Yield all settings of the wiring, ascending."""
    count = len(togethers_of(wiring))
    if count > MOST_TOGETHERS:
        raise TooLarge(MOST_TOGETHERS)
    for number in range(1 << count):
        yield [(number >> place) & 1 for place in range(count - 1, -1, -1)]


def kept_ties(wiring, setting):
    """Return the ties that the setting keeps, ascending."""
    togethers = togethers_of(wiring)
    if len(setting) != len(togethers) or not all([number in (0, 1) for number in setting]):
        raise BadSetting("the list is not a setting")
    kept_parts = {node: number for node, number in zip(togethers, setting)}
    return [2 * node + part for node in range(len(wiring.nodes)) for part in (0, 1)
            if kept_parts.get(node, part) == part]


def groups_under(wiring, setting):
    """Return the groups that the kept ties make of all places of the web."""
    kept = kept_ties(wiring, setting)
    web = web_of_wiring(wiring)
    return grouped(list(range(len(web.sides))), [(web.ties[tie][0], web.ties[tie][2]) for tie in kept])


def ring_under(wiring, setting):
    """Return a cycle of the web all of whose ties are kept, or None."""
    kept = kept_ties(wiring, setting)
    web = web_of_wiring(wiring)
    for index, tie in enumerate(kept):
        # The first tie that joins what the ties before it join already closes a cycle.
        ends = web.ties[tie]
        chain = shortest_chain(web, kept[:index], ends[2], ends[0])
        if chain is not None:
            return [(tie, 0)] + chain
    return None


def shortest_chain(web, ties, start, goal):
    """Return the fewest steps that walk only these ties from the start to the goal, or None."""
    allowed = {tie: True for tie in ties}
    came = {start: None}
    last_steps = {}
    queue = [start]
    at = 0
    while at < len(queue):
        for step in web.steps_from(queue[at]):
            place = web.head(step)[0]
            if step[0] in allowed and place not in came:
                came[place] = queue[at]
                last_steps[place] = step
                queue.append(place)
        at += 1
    if goal not in came:
        return None
    return [last_steps[place] for place in walk_back(came, goal)[-2::-1]]


def setting_of(wiring, steps):
    """Return the setting that keeps the ties of the turning cycle."""
    if not is_turning_cycle(web_of_wiring(wiring), steps):
        raise NotATurningCycle("the steps are not a turning cycle")
    walked = {tie: True for tie, _ in steps}
    return [1 if 2 * node + 1 in walked else 0 for node in togethers_of(wiring)]
