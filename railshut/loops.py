"""Loops: rows that shut, wherever they are begun, whichever way they are run (l1, l2)."""

from railshut.errors import BadRow
from railshut.rows import backwards, mirrored, shuts


def least_word(row):
    """The first one, in order, of all rows that are the same loop."""
    _refuse_unshut(row)
    return min(_turned_forms(row), default=row)


def same_loop(row, other):
    """Whether one row is the other begun elsewhere, run backwards, mirrored, or any of these together."""
    return least_word(row) == least_word(other)


def symmetry(row):
    """How many of the turned forms of the row are the row itself."""
    _refuse_unshut(row)
    if row == "":
        raise BadRow("empty")
    return _turned_forms(row).count(row)


def _refuse_unshut(row):
    if not shuts(row):
        raise BadRow("open")


def _turned_forms(row):
    """The 4 * n turned forms of a row of n pieces, a form as often as it comes."""
    ways = (row, backwards(row), mirrored(row), mirrored(backwards(row)))
    return [way[at:] + way[:at] for way in ways for at in range(len(way))]
