"""Closures of rows by a box (k1, k2)."""

from railshut.boxes import holds, rows_between
from railshut.poses import HOME
from railshut.rows import lead, shuts


def is_closure(row, box, other):
    """Whether the row shuts with the other one behind it, which comes out of the box."""
    return holds(box, other) and shuts(row + other)


def shortest_closure(row, box):
    """The closure with the fewest pieces, the first one of several; None if there is none."""
    for many in range(sum(box) + 1):
        found = _closures(row, box, many)
        if found:
            return found[0]
    return None


def closure_count(row, box):
    """How many closures there are."""
    return sum([len(_closures(row, box, many)) for many in range(sum(box) + 1)])


def _closures(row, box, many):
    """All closures with just so many pieces, in order."""
    return rows_between(lead(HOME, row), HOME, box, many)
