"""Trains on a layout, and how they run with thrown turnouts (c6, g1 to g3)."""

from railshut.errors import BadTrain
from railshut.layouts import joints_in

# For each kind the ends by which a train can come in and leave, in order.
PASSES = {
    "S": ((0, 1), (1, 0)),
    "H": ((0, 1), (1, 0)),
    "C": ((0, 1), (1, 0)),
    "P": ((0, 1), (0, 2), (1, 0), (2, 0)),
    "Q": ((0, 1), (0, 2), (1, 0), (2, 0)),
    "X": ((0, 1), (1, 0), (2, 3), (3, 2)),
}


def trains_of(layout):
    """All trains on the layout, in order."""
    placed = [(number, piece[0]) for number, piece in enumerate(layout) if piece is not None]
    return tuple([(number, entry, leaving) for number, kind in placed for entry, leaving in PASSES[kind]])


def facing_round(train):
    """The train that faces the other way on its piece."""
    piece, entry, leaving = train
    return (piece, leaving, entry)


def step_train(layout, thrown, train):
    """The train behind one step; None if it runs off."""
    _refuse_wrong(layout, thrown, train)
    return step_in(steps_table(layout), thrown, train)


def run_train(layout, thrown, train, steps):
    """The train behind so many steps; None if it runs off on the way."""
    _refuse_wrong(layout, thrown, train)
    way, again = way_in(steps_table(layout), thrown, train)
    if steps < len(way):
        return way[steps]
    if again is None:
        return None
    start = way.index(again)
    return way[start + (steps - start) % (len(way) - start)]


def cycle(layout, thrown, train):
    """(start, length) of the cycle of the train; None if it runs off some time."""
    _refuse_wrong(layout, thrown, train)
    way, again = way_in(steps_table(layout), thrown, train)
    if again is None:
        return None
    start = way.index(again)
    return (start, len(way) - start)


def turnouts_in(layout):
    """The numbers of all turnouts of the layout, ascending."""
    return [number for number, piece in enumerate(layout) if piece is not None and piece[0] in "PQ"]


def steps_table(layout):
    """For each train of the layout, in order, all trains that a step can make of it, the end 1 first."""
    trains = trains_of(layout)
    joints = joints_in(layout)
    coming = {}
    for train in trains:
        coming.setdefault(train[:2], []).append(train)
    table = {}
    for train in trains:
        piece, _, leaving = train
        # Behind an open end there is nothing to come into.
        ahead = joints.get((piece, leaving))
        table[train] = () if ahead is None else tuple(coming[ahead])
    return table


def step_in(table, thrown, train):
    """The train behind one step, out of what the table tells; None if it runs off."""
    steps = table[train]
    if not steps:
        return None
    # Only what comes into the end 0 of a turnout has two steps, the second one by its branch.
    return steps[-1] if steps[0][0] in thrown else steps[0]


def way_in(table, thrown, train):
    """The trains that the train comes to be, all unlike; and which of them it then is again, None if it runs off."""
    way = {}
    here = train
    while here is not None and here not in way:
        way[here] = True
        here = step_in(table, thrown, here)
    return list(way), here


def table_for(layout, trains):
    """The steps of all trains of the layout; refused if one of those told is none of them."""
    table = steps_table(layout)
    for train in trains:
        refuse_no_train(table, train)
    return table


def refuse_no_turnouts(layout, thrown):
    """Refuses what is not an ascending tuple of turnouts of the layout."""
    if thrown != tuple([number for number in turnouts_in(layout) if number in thrown]):
        raise BadTrain("no turnout")


def refuse_no_train(table, train):
    """Refuses what is not one of the trains that have steps told."""
    if train not in table:
        raise BadTrain("no train")


def _refuse_wrong(layout, thrown, train):
    refuse_no_turnouts(layout, thrown)
    refuse_no_train(trains_of(layout), train)
