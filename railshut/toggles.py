"""Toggles on the way: turnouts that are toggled ahead of a train (t1, t2)."""

from heapq import heappop, heappush

from railshut.trains import refuse_no_turnouts, table_for


def least_toggles(layout, thrown, train, goal):
    """The fewest toggles that lead the train to the goal; None if it cannot be led there."""
    told = leading(layout, thrown, train, goal)
    return None if told is None else len(told) - told.count("step")


def leading(layout, thrown, train, goal):
    """Numbers of turnouts to toggle, and "step" for each step: the fewest toggles, then the fewest steps."""
    refuse_no_turnouts(layout, thrown)
    table = table_for(layout, [train, goal])
    # Steps are told by a number, too, which is greater than those of all turnouts: so a turnout is ahead of a step.
    step = len(layout)
    least = {}
    waiting = [(0, 0, (), train)]
    while waiting:
        toggles, steps, told, here = heappop(waiting)
        if here not in least:
            least[here] = told
            for ahead in table[here]:
                toggled = _toggled_for(thrown, ahead)
                heappush(waiting, (toggles + len(toggled), steps + 1, told + toggled + (step,), ahead))
    if goal not in least:
        return None
    return tuple(["step" if deed == step else deed for deed in least[goal]])


def _toggled_for(thrown, ahead):
    """The number of the turnout that is toggled so that a train steps there, alone in a tuple; () if none has to be."""
    # The least of all ways comes into no turnout by its end 0 twice: it could be cut short there, without more
    # toggles. So each turnout is as it was at first then; and as no piece is joined to itself, the train is not on it.
    piece, entry, leaving = ahead
    return (piece,) if entry == 0 and leaving == (1 if piece in thrown else 2) else ()
