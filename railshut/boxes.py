"""Boxes of pieces, and the rows and loops that can be built out of them (c3, b1)."""

from railshut.loops import least_word
from railshut.poses import HOME, seen
from railshut.rows import LETTERS, lead


def holds(box, row):
    """Whether there are enough pieces in the box for the row."""
    straights, halves, curves = box
    if row.count("S") > straights or row.count("H") > halves:
        return False
    return row.count("L") + row.count("R") <= curves


def loops_of(box, most):
    """The least words of all loops out of the box with 1 to so many pieces, by pieces, then by the alphabet."""
    words = []
    for many in range(1, most + 1):
        # All forms of a loop need the same kinds, so the least word is among the rows.
        rows = rows_between(HOME, HOME, box, many)
        words.extend([row for row in rows if row == least_word(row)])
    return tuple(words)


def shut_count(many):
    """How many rows of just so many pieces shut."""
    return len(rows_between(HOME, HOME, (many, many, many), many))


def rows_between(pose, goal, box, many):
    """All rows of just so many pieces out of the box that lead from the pose to the goal, in order."""
    # Two halves of a row that fit together are far fewer to look at than all rows.
    ahead = many // 2
    tails = {}
    for tail in _rows_out_of(box, many - ahead):
        tails.setdefault(lead(HOME, tail), []).append(tail)
    rows = []
    for head in _rows_out_of(box, ahead):
        needed = seen(lead(pose, head), goal)
        rows.extend([head + tail for tail in tails.get(needed, [])])
    return [row for row in rows if holds(box, row)]


def _rows_out_of(box, many):
    """All rows of just so many pieces for which there are enough in the box, in order."""
    rows = [""]
    for _ in range(many):
        longer = [row + letter for row in rows for letter in LETTERS]
        rows = [row for row in longer if holds(box, row)]
    return rows
