"""Sides: papers that show that no train can turn round (s1, s2)."""

from railshut.reaching import reached_from
from railshut.shapes import are_trains
from railshut.trains import facing_round, steps_table


def judge_sides(layout, paper):
    """Whether it is a side paper of the layout, whatever it is."""
    table = steps_table(layout)
    if not are_trains(table, paper):
        return False
    told = {train: True for train in paper}
    if list(paper) != sorted(told):
        return False
    if not all([(train in told) != (facing_round(train) in told) for train in table]):
        return False
    return all([(here in told) == (ahead in told) for here in table for ahead in table[here]])


def make_sides(layout):
    """The side paper that has of each two sets the one with the less first train; None if there is none."""
    table = steps_table(layout)
    near = _near_in(table)
    sides = {}
    # The trains come in order, so the set that is met first is the one with the less first train.
    for train in table:
        if train not in sides and facing_round(train) not in sides:
            together = reached_from(near, train)
            # If one of the set faced another one's way, all of them would: the two sets would be one.
            if facing_round(train) in together:
                return None
            for other in together:
                sides[other] = True
    return tuple([train for train in table if train in sides])


def _near_in(table):
    """For each train, those that are a free step of it or whose free step it is."""
    near = {train: list(table[train]) for train in table}
    for here in table:
        for ahead in table[here]:
            near[ahead].append(here)
    return near
