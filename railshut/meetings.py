"""Meetings of two trains that move step by step at the same time (e1)."""

from railshut.trains import refuse_no_turnouts, step_in, table_for


def first_meeting(layout, thrown, one, other, steps):
    """Behind how many steps, at most so many, the trains meet for the first time; None if they do not."""
    refuse_no_turnouts(layout, thrown)
    table = table_for(layout, [one, other])
    if one[0] == other[0]:
        return 0
    pair = (one, other)
    for many in range(1, steps + 1):
        behind = tuple([step_in(table, thrown, train) for train in pair])
        if None in behind:
            return None
        if have_met(pair, behind):
            return many
        pair = behind
    return None


def have_met(pair, behind):
    """Whether two trains on unlike pieces, told ahead of a step and behind it, are on one piece or have passed."""
    pieces = (behind[0][0], behind[1][0])
    return pieces[0] == pieces[1] or pieces == (pair[1][0], pair[0][0])
