"""Exchanges of two trains that are shunted (v1, v2)."""

from railshut.errors import BadTrain
from railshut.trains import facing_round, table_for


def exchange_steps(layout, one, other):
    """The least number of steps of an exchange; None if there is none."""
    pair, _, away = _shunting(layout, one, other)
    return away.get(pair)


def exchange_plan(layout, one, other):
    """The exchange with the fewest steps, the first one of several; None if there is none."""
    pair, near, away = _shunting(layout, one, other)
    if pair not in away:
        return None
    plan = []
    # One step can lead onto a turnout to leave it by either end, so what is told of it lets several pairs go on.
    pairs = [pair]
    while away[pairs[0]] > 0:
        nearer = away[pairs[0]] - 1
        moves = [move for here in pairs for move in _moves(near, here) if away[move[1]] == nearer]
        first = min([step for step, _ in moves])
        plan.append(first)
        pairs = sorted({ahead for step, ahead in moves if step == first})
    return tuple(plan)


def _shunting(layout, one, other):
    """The two trains as a pair, what is near each train, and how many steps an exchange takes from each pair."""
    table = table_for(layout, [one, other])
    if one[0] == other[0]:
        raise BadTrain("one piece")
    near = _near_in(table)
    exchanged = [(here, there) for here in near for there in near if (here[0], there[0]) == (other[0], one[0])]
    return (_either_way(one), _either_way(other)), near, _steps_to(near, exchanged)


def _either_way(train):
    """The train or the one that faces round, the less one: as facing round is no step, one stands for both."""
    return min(train, facing_round(train))


def _near_in(table):
    """For each train, facing either way, those to which a free step leads."""
    near = {}
    for train in table:
        near.setdefault(_either_way(train), []).extend([_either_way(ahead) for ahead in table[train]])
    return near


def _moves(near, pair):
    """Each step that can be made, as it is told in a plan, and the pair behind it."""
    one, other = pair
    moves = [((0, ahead[0]), (ahead, other)) for ahead in near[one] if ahead[0] != other[0]]
    moves.extend([((1, ahead[0]), (one, ahead)) for ahead in near[other] if ahead[0] != one[0]])
    return moves


def _steps_to(near, goals):
    """How many steps the nearest goal is away, for each pair that can come to one."""
    away = {goal: 0 for goal in goals}
    new = goals
    while new:
        behind = []
        for here in new:
            # A train that faces round can go back the way that it came, so each step can be taken back.
            for _, pair in _moves(near, here):
                if pair not in away:
                    away[pair] = away[here] + 1
                    behind.append(pair)
        new = behind
    return away
