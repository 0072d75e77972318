"""Followers of steps, and turning walks (points 21 and 22)."""

from comesapart.runs import longest_runs, walk_back


def followers(web, step):
    """Return the steps that leave where the step enters, by another side, ascending."""
    place, side = web.head(step)
    return [after for after in web.steps_from(place) if web.tail(after)[1] != side]


def follows(web, before, after):
    """Tell whether the second of two steps of the web is a follower of the first."""
    place, side = web.head(before)
    start, start_side = web.tail(after)
    return place == start and side != start_side


def follower_table(web):
    """Return {step: its followers} for all steps, ascending."""
    return {(tie, direction): followers(web, (tie, direction))
            for tie in range(len(web.ties)) for direction in (0, 1)}


def walks(web, first, length):
    """Yield all turning walks of this length that start with the first step, ascending."""
    web.head(first)
    table = follower_table(web)
    runs = longest_runs(table)
    walk = []
    # One list for each step of the walk and one more: the steps still to be tried there, the lowest one last.
    untried = [lasting([first], runs, length)]
    while untried:
        if untried[-1]:
            walk.append(untried[-1].pop())
            untried.append(lasting(table[walk[-1]], runs, length - len(walk)))
            if len(walk) == length:
                yield list(walk)
        else:
            untried.pop()
            del walk[-1:]


def lasting(steps, runs, length):
    """Return, the last one first, the steps that start walks of the length; so no dead end is tried."""
    if length == 0:
        return []
    return [step for step in steps[::-1] if runs[step] is None or runs[step] >= length]


def reached(web, first):
    """Return the last steps of all turning walks of two or more steps from the first step, ascending."""
    waiting = followers(web, first)
    met = {}
    while waiting:
        step = waiting.pop()
        if step not in met:
            met[step] = True
            waiting.extend(followers(web, step))
    return sorted(met)


def shortest_walk(web, first, last):
    """Return the lowest of the shortest turning walks from the first step to the last one, or None."""
    web.head(first)
    web.head(last)
    came = {first: None}
    queue = [first]
    at = 0
    # Steps are met in the order of their shortest walks, the lowest of equally long walks first.
    while at < len(queue) and last not in came:
        for after in followers(web, queue[at]):
            if after not in came:
                came[after] = queue[at]
                queue.append(after)
        at += 1
    if last not in came:
        return None
    return walk_back(came, last)[::-1]
