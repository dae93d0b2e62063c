"""Settings: thrown turnouts that alone bring a train to a goal (q1)."""

from heapq import heappop, heappush

from railshut.trains import table_for


def least_setting(layout, train, goal):
    """The setting with the fewest turnouts, the first one of several; None if there is none."""
    table = table_for(layout, [train, goal])
    # A way that came into one turnout by its end 0 twice could be cut short there. So the least of all ways needs
    # each turnout one way only, and what it throws is a setting.
    least = {}
    waiting = [(0, (), train)]
    while waiting:
        many, thrown, here = heappop(waiting)
        if here not in least:
            least[here] = thrown
            for ahead in table[here]:
                more = _thrown_for(thrown, ahead)
                heappush(waiting, (len(more), more, ahead))
    return least.get(goal)


def _thrown_for(thrown, ahead):
    """What is thrown once a train has stepped there: the turnout, too, if it leaves by its branch."""
    piece, entry, leaving = ahead
    # Only a turnout is passed from its end 0 to its end 2.
    return tuple(sorted(thrown + (piece,))) if (entry, leaving) == (0, 2) else thrown
