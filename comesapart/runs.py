"""Walks through items: the longest ones, where a table names what may come next, and the way back from their end."""


def longest_runs(table):
    """Return for each item the largest number of items of a walk from it, or None if there is no largest."""
    waiting = {item: len(table[item]) for item in table}
    runs = {item: None for item in table}
    ready = [item for item in table if not table[item]]
    earlier = earlier_items(table)
    while ready:
        item = ready.pop()
        runs[item] = 1 + max([runs[after] for after in table[item]], default=0)
        for before in earlier[item]:
            waiting[before] -= 1
            if waiting[before] == 0:
                ready.append(before)
    return runs


def earlier_items(table):
    """Return for each item the list of the items that it may come behind."""
    earlier = {item: [] for item in table}
    for item in table:
        for after in table[item]:
            earlier[after].append(item)
    return earlier


def walk_back(came, last):
    """Return the last item, the one from which it came, and so on to the first one, which came from None."""
    chain = [last]
    while came[chain[-1]] is not None:
        chain.append(came[chain[-1]])
    return chain
