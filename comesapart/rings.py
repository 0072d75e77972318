"""Rings of steps, and the heights of steps (point 23)."""

from comesapart.followers import follower_table, follows
from comesapart.paths import is_step
from comesapart.runs import longest_runs


def is_ring(web, steps):
    """Tell whether the steps are a ring of the web."""
    if len(steps) == 0 or len(set(steps)) != len(steps):
        return False
    if not all([is_step(web, step) for step in steps]):
        return False
    return all([follows(web, steps[index - 1], step) for index, step in enumerate(steps)])


def find_ring(web):
    """Return a ring of the web, or None if it has none."""
    table = follower_table(web)
    runs = longest_runs(table)
    endless = [step for step in table if runs[step] is None]
    if not endless:
        return None
    walk = [endless[0]]
    # Each endless step has an endless follower, so that the walk must come back to one of its steps.
    while True:
        after = [step for step in table[walk[-1]] if runs[step] is None][0]
        if after in walk:
            return walk[walk.index(after):]
        walk.append(after)


def heights(web):
    """Return the heights of all steps, ascending by step, or None if the web has a ring."""
    runs = longest_runs(follower_table(web))
    found = [runs[step] for step in runs]
    if None in found:
        return None
    return found
