"""Routes, and papers that show that none is shorter or that there is none (h1 to h3)."""

from railshut.reaching import reached_from
from railshut.shapes import are_trains, is_integer, is_train, is_tuple
from railshut.trains import facing_round, steps_table, table_for


def free_steps(layout, train):
    """The trains that a step with any turnouts thrown can make of the train, the end 1 first."""
    return steps_table(layout)[train]


def shortest_route(layout, train, goal):
    """The route with the fewest trains, the one by the ends 1 of several; None if there is none."""
    return _shortest_in(table_for(layout, [train, goal]), train, goal)


def reach(layout, train):
    """The pieces of all trains to which the train has a route, ascending."""
    reached = reached_from(table_for(layout, [train]), train)
    return tuple(sorted({other[0] for other in reached}))


def can_turn_round(layout, train):
    """Whether the train has a route to itself facing round."""
    return facing_round(train) in reached_from(table_for(layout, [train]), train)


def judge_paper(layout, train, goal, paper):
    """Whether the paper about the train and the goal is taken, whatever it is."""
    table = steps_table(layout)
    if not are_trains(table, (train, goal)):
        return False
    if _is_told(paper, "least", 3):
        return _is_route(table, train, goal, paper[1]) and _says_least(table, goal, paper[1], paper[2])
    if _is_told(paper, "never", 2):
        return _says_never(table, train, goal, paper[1])
    return False


def make_paper(layout, train, goal):
    """A paper about the train and the goal that is taken."""
    table = table_for(layout, [train, goal])
    route = _shortest_in(table, train, goal)
    if route is None:
        reached = reached_from(table, train)
        return ("never", tuple([other for other in table if other in reached]))
    most = len(route) - 1
    away = _steps_to(table, goal)
    # A train from which the goal cannot be come to must not have less than the trains that can step to it.
    numbers = [(other, min(most, away.get(other, most))) for other in table]
    return ("least", route, tuple([pair for pair in numbers if pair[1] > 0]))


def _shortest_in(table, train, goal):
    away = _steps_to(table, goal)
    if train not in away:
        return None
    route = [train]
    while route[-1] != goal:
        nearer = away[route[-1]] - 1
        # The end 1 comes first among the steps, so the first one that is nearer is taken.
        route.append([other for other in table[route[-1]] if away.get(other) == nearer][0])
    return tuple(route)


def _steps_to(table, goal):
    """How many free steps the goal is away, for each train that has a route to it."""
    away = {goal: 0}
    new = [goal]
    while new:
        new = [train for train in table if train not in away and any([other in away for other in table[train]])]
        many = max(away.values()) + 1
        for train in new:
            away[train] = many
    return away


def _is_told(paper, first, many):
    """Whether the paper is a tuple of so many, with this text ahead."""
    if not is_tuple(paper) or len(paper) != many:
        return False
    head = paper[0]
    # Whatever is no text is not compared: it could be something that cannot be.
    return type(head) == str and head == first


def _are_pairs(table, worth):
    """Whether it is a tuple of pairs of a train of the layout and an integer from 1 on."""
    if not is_tuple(worth) or not all([is_tuple(pair) and len(pair) == 2 for pair in worth]):
        return False
    return all([is_train(table, train) and is_integer(number) and number >= 1 for train, number in worth])


def _is_route(table, train, goal, route):
    """Whether it is a route from the train to the goal."""
    if not are_trains(table, route) or route[:1] != (train,) or route[-1:] != (goal,):
        return False
    return all([ahead in table[here] for here, ahead in zip(route, route[1:])])


def _says_least(table, goal, route, pairs):
    """Whether the pairs say that no route to the goal from where this one begins has fewer steps."""
    if not _are_pairs(table, pairs):
        return False
    numbers = dict(pairs)
    if len(numbers) < len(pairs) or goal in numbers or numbers.get(route[0], 0) != len(route) - 1:
        return False
    steps = [(here, ahead) for here in table for ahead in table[here]]
    return all([numbers.get(here, 0) <= numbers.get(ahead, 0) + 1 for here, ahead in steps])


def _says_never(table, train, goal, trains):
    """Whether the trains say that there is no route from the train to the goal."""
    if not are_trains(table, trains) or train not in trains or goal in trains:
        return False
    told = {here: True for here in trains}
    return all([ahead in told for here in told for ahead in table[here]])
