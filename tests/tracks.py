"""Layouts with turnouts and crossings, and trains on them, stepped by looking for the end that lies at the joint."""

import itertools

from tests.floors import all_ends, along, facing, piece_ends
from tests.model import HOME, lead_by_steps

PASSES = {
    "S": ((0, 1), (1, 0)), "H": ((0, 1), (1, 0)), "C": ((0, 1), (1, 0)), "P": ((0, 1), (0, 2), (1, 0), (2, 0)),
    "Q": ((0, 1), (0, 2), (1, 0), (2, 0)), "X": ((0, 1), (1, 0), (2, 3), (3, 2)),
}

RING = along(HOME, "LLLLLLLL")

# A turnout whose branch leads round into its end 0, and a straight ahead: what comes in there once goes round for ever.
ROUND = (("P", HOME),) + along((0, 0, 2, -2, 1), "LLLLLLL") + (("S", (2, 0, 0, 0, 0)),)

# A turnout whose two ends ahead are joined by a row, and a straight behind it: trains come back facing round.
BALLOON = (("P", HOME),) + along((2, 0, 0, 0, 0), "RSSLLLSSLLSLSS") + (("S", (-2, 0, 0, 0, 0)),)


def siding(pose):
    """A turnout, two ways of the same number of pieces, and a turnout where they come together; and the pose behind it."""
    ahead = lead_by_steps(pose, "SRLLRS")
    branch, straight = lead_by_steps(pose, "L"), lead_by_steps(pose, "S")
    return (("P", pose),) + along(straight, "RLLR") + along(branch, "RSSR") + (("Q", facing(ahead)),), ahead


SIDING = siding(HOME)[0]
TWO_SIDINGS = SIDING + siding(siding(HOME)[1])[0]

# One crossing and two loops.
EIGHT = (("X", HOME),) + along((2, 0, 0, 0, 0), "HLLLLLLH") + along((1, 0, -1, 0, 6), "HRRRRRRH")

# A siding with a balloon at its far end, and gaps among the numbers.
FAR_BALLOON = (None,) + SIDING[:5] + (None, None) + SIDING[5:] + (("X", siding(HOME)[1]),)


def pear(pose):
    """The smallest balloon, with its turnout at the pose."""
    return (("P", pose),) + along(lead_by_steps(pose, "L"), "LRRRRRRS")


# A balloon at each end of a straight.
DUMBBELL = pear(HOME) + (("S", (-2, 0, 0, 0, 0)),) + pear((-2, 0, 0, 0, 4))

TRACKS = {
    "ring": RING, "round": ROUND, "balloon": BALLOON, "siding": SIDING, "two sidings": TWO_SIDINGS, "eight": EIGHT,
    "dumbbell": DUMBBELL,
    "with gaps": FAR_BALLOON, "a row": along((4, -1, 3, 0, 5), "SLRH"), "nothing": (), "only gaps": (None, None),
}


def all_trains(layout):
    return [
        (number,) + ends for number, piece in enumerate(layout) if piece is not None for ends in PASSES[piece[0]]
    ]


def turnouts(layout):
    return [number for number, piece in enumerate(layout) if piece is not None and piece[0] in "PQ"]


def choices(layout):
    """All ascending tuples of turnouts."""
    numbers = turnouts(layout)
    return [thrown for many in range(len(numbers) + 1) for thrown in itertools.combinations(numbers, many)]


def free(layout, train):
    """The trains that a step with any turnouts thrown can make of it, the end 1 first."""
    number, _, leaving = train
    joint = facing(piece_ends(*layout[number])[leaving])
    there = [(other, end) for other, end, pose in all_ends(layout) if pose == joint]
    return [other for other in all_trains(layout) if other[:2] in there]


def stepped(layout, thrown, train):
    """The train behind one step, or None."""
    steps = free(layout, train)
    if len(steps) == 2:
        return steps[1] if steps[0][0] in thrown else steps[0]
    return steps[0] if steps else None


def shortest_by_trial(layout, train, goal):
    """Of all routes without a train twice, those with the fewest trains; of these the one by the ends 1."""
    routes = [(train,)]
    while routes:
        there = [route for route in routes if route[-1] == goal]
        if there:
            return by_the_ends_1(there)
        routes = [route + (ahead,) for route in routes for ahead in free(layout, route[-1]) if ahead not in route]
    return None


def by_the_ends_1(routes):
    """The route that takes the end 1 at the first turnout at which some of them differ."""
    while len(routes) > 1:
        at = min(at for at in range(len(routes[0])) if len({route[at] for route in routes}) > 1)
        routes = [route for route in routes if route[at][1:] == (0, 1)]
    return routes[0]


def trains_reached(layout, train):
    """All trains to which it has a route."""
    reached = [train]
    for here in reached:
        reached.extend(ahead for ahead in free(layout, here) if ahead not in reached)
    return reached
