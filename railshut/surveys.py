"""Surveys: what all trains do, for each choice of thrown turnouts (y2)."""

from itertools import combinations

from railshut.errors import BadPiece
from railshut.trains import steps_table, turnouts_in, way_in

MOST_TURNOUTS = 5


def survey(layout):
    """(thrown, how many trains run off, lengths of all cycles) for each choice, those with few thrown ones ahead."""
    turnouts = turnouts_in(layout)
    if len(turnouts) > MOST_TURNOUTS:
        raise BadPiece("too many turnouts")
    choices = [thrown for many in range(len(turnouts) + 1) for thrown in combinations(turnouts, many)]
    table = steps_table(layout)
    return tuple([_row(table, thrown) for thrown in choices])


def _row(table, thrown):
    runs_off = 0
    lengths = {}
    for train in table:
        way, again = way_in(table, thrown, train)
        if again is None:
            runs_off += 1
        else:
            # Whichever train comes into a cycle, its least train is the same one.
            trains = way[way.index(again):]
            lengths[min(trains)] = len(trains)
    return (thrown, runs_off, tuple(sorted(lengths.values())))
