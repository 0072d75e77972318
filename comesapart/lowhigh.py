"""Tuples of two numbers, the lower one first."""


def in_order(one, other):
    """Return the tuple of two numbers, the lower one first."""
    return (one, other) if one < other else (other, one)
