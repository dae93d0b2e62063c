"""Layouts with turnouts and crossings, and trains on them, stepped by looking for the end that lies at the joint."""

import functools
import itertools
import random

from tests.floors import all_ends, along, facing, joints, piece_ends, seen_by_steps, why_not
from tests.model import AT_HOME, HOME, all_rows, laid_by_steps, lead_by_steps

PASSES = {
    "S": ((0, 1), (1, 0)), "H": ((0, 1), (1, 0)), "C": ((0, 1), (1, 0)), "P": ((0, 1), (0, 2), (1, 0), (2, 0)),
    "Q": ((0, 1), (0, 2), (1, 0), (2, 0)), "X": ((0, 1), (1, 0), (2, 3), (3, 2)),
}

RING = along(HOME, "LLLLLLLL")

# A turnout whose branch leads round into its end 0, and a straight ahead: what comes in there once goes round for ever.
ROUND = (("P", HOME),) + along((0, 0, 2, -2, 1), "LLLLLLL") + (("S", (2, 0, 0, 0, 0)),)

# A turnout whose two ends ahead are joined by a row, and a straight behind it: trains come back facing round.
BALLOON = (("P", HOME),) + along((2, 0, 0, 0, 0), "RSSLLLSSLLSLSS") + (("S", (-2, 0, 0, 0, 0)),)


def siding(pose):
    """A turnout, two ways of the same number of pieces, and a turnout where they come together; and the pose behind it."""
    ahead = lead_by_steps(pose, "SRLLRS")
    branch, straight = lead_by_steps(pose, "L"), lead_by_steps(pose, "S")
    return (("P", pose),) + along(straight, "RLLR") + along(branch, "RSSR") + (("Q", facing(ahead)),), ahead


SIDING = siding(HOME)[0]
TWO_SIDINGS = SIDING + siding(siding(HOME)[1])[0]

# A siding whose way straight on has more pieces than the other one, and a straight behind it.
UNEVEN = (("P", HOME),) + along((2, 0, 0, 0, 0), "HHRLLR") + along((0, 0, 2, -2, 1), "RSSSR") + (
    ("Q", facing(lead_by_steps(HOME, "SSRLLRS"))), ("S", lead_by_steps(HOME, "SSRLLRS")),
)

# One crossing and two loops.
EIGHT = (("X", HOME),) + along((2, 0, 0, 0, 0), "HLLLLLLH") + along((1, 0, -1, 0, 6), "HRRRRRRH")

# Two ovals of 14 and of 10 pieces that share two crossings.
CROSSED = (("X", (-3, 0, 0, 0, 0)), ("X", (1, 0, 0, 0, 0)), ("S", (-1, 0, 0, 0, 0))) + along((3, 0, 0, 0, 0), "LLLLSSSLLLL") + (
    along((2, 0, 1, 0, 2), "LLLL") + along((-2, 0, -1, 0, 6), "LLLL")
)

# A siding with a balloon at its far end, and gaps among the numbers.
FAR_BALLOON = (None,) + SIDING[:5] + (None, None) + SIDING[5:] + (("X", siding(HOME)[1]),)


def pear(pose):
    """The smallest balloon, with its turnout at the pose."""
    return (("P", pose),) + along(lead_by_steps(pose, "L"), "LRRRRRRS")


# A balloon at each end of a straight.
DUMBBELL = pear(HOME) + (("S", (-2, 0, 0, 0, 0)),) + pear((-2, 0, 0, 0, 4))

# Three turnouts, each joined to the two others, and a straight at the end 0 of each.
BARE_WYE = (("P", HOME),) + along((0, 0, 2, -2, 1), "LL") + (("Q", (0, 2, 2, 2, 7)),) + along((2, 0, 2, 2, 6), "LS") + (
    ("Q", (4, 0, 0, 0, 4)),
)
WYE = BARE_WYE + tuple(("S", facing(BARE_WYE[number][1])) for number in (0, 3, 6))

# A siding in an oval: 24 pieces.
OVAL = SIDING + along(siding(HOME)[1], "LLLLSRLLRSLLLL")


def ladder(rungs):
    """A row of turnouts and one beside it, joined by the branches, so that there are many ways across; 2 * rungs + 3 pieces."""
    beside = lead_by_steps(HOME, "LR")
    on = [(2 * many, 0, 0, 0, 0) for many in range(-1, rungs + 1)]
    across = [(beside[0] + 2 * many,) + beside[1:] for many in range(rungs)]
    mains, merges = tuple(("P", pose) for pose in on[1:-1]), tuple(("P", facing(pose)) for pose in across[1:])
    return mains + along(lead_by_steps(HOME, "L"), "R") + merges + (("S", across[-1]), ("S", on[-1]), ("S", on[0]))


# A ladder of two rungs, of which the first one has more pieces; and the straight behind its end is the piece 7.
SLOPE = (("P", HOME), ("S", (2, 0, 0, 0, 0)), ("P", (4, 0, 0, 0, 0))) + along((0, 0, 2, -2, 1), "RHH") + (
    ("P", facing(lead_by_steps(HOME, "LRSS"))), ("S", lead_by_steps(HOME, "LRSS")), ("S", (-2, 0, 0, 0, 0)),
)


def ring_of_turnouts(many, pose=HOME):
    """A ring, the first pieces of which are turnouts whose branches go round."""
    ring = along(pose, "LLLLLLLL")
    return tuple(("P", there) for _, there in ring[:many]) + ring[many:]


TRACKS = {
    "ring": RING, "round": ROUND, "balloon": BALLOON, "siding": SIDING, "two sidings": TWO_SIDINGS, "eight": EIGHT,
    "dumbbell": DUMBBELL, "oval": OVAL, "wye": WYE, "uneven": UNEVEN, "slope": SLOPE, "crossed": CROSSED, "ladder": ladder(3), "ring of turnouts": ring_of_turnouts(4),
    "with gaps": FAR_BALLOON, "a row": along((4, -1, 3, 0, 5), "SLRH"), "nothing": (), "only gaps": (None, None),
}


@functools.lru_cache(maxsize=None)
def rows_by_lead():
    """For each pose the first one of the rows with the fewest letters that lead to it from home, of those of at most six."""
    found = {}
    for row in all_rows(6):
        found.setdefault(lead_by_steps(HOME, row), row)
    return found


def grown(pick, most):
    """A layout grown at its open ends, two of which are often joined by a row where there is one."""
    layout = (("P", HOME),)
    for _ in range(3 * most):
        joined = joints(layout)
        opens = [pose for number, end, pose in all_ends(layout) if (number, end) not in joined] or [HOME]
        pairs = [(one, rows_by_lead().get(seen_by_steps(one, facing(other)))) for one in opens for other in opens]
        rows = [(one, row) for one, row in pairs if row]
        if rows and (len(layout) > most // 2 or pick.random() < 0.5):
            pieces = along(*pick.choice(rows))
        elif len(layout) > most // 2:
            break
        else:
            kind = pick.choice("SHCPQPQX")
            end = facing(pick.choice(AT_HOME[kind]))
            pieces = ((kind, laid_by_steps(pick.choice(opens), seen_by_steps(end, HOME))),)
        if len(layout) + len(pieces) <= most and why_not(layout, pieces) is None:
            layout = layout + pieces
    return tuple(pick.sample(layout, len(layout)))


@functools.lru_cache(maxsize=None)
def grown_layouts(many, seed, most=22):
    """Layouts with turnouts and ways round, in any order of their pieces, the same ones each time."""
    pick = random.Random(seed)
    found = []
    while len(found) < many:
        layout = grown(pick, pick.randint(12, most))
        if len(joints(layout)) // 2 >= len(layout):
            found.append(layout)
    return tuple(found)


@functools.lru_cache(maxsize=None)
def all_trains(layout):
    return tuple(
        (number,) + ends for number, piece in enumerate(layout) if piece is not None for ends in PASSES[piece[0]]
    )


def turnouts(layout):
    return [number for number, piece in enumerate(layout) if piece is not None and piece[0] in "PQ"]


def choices(layout):
    """All ascending tuples of turnouts."""
    numbers = turnouts(layout)
    return [thrown for many in range(len(numbers) + 1) for thrown in itertools.combinations(numbers, many)]


@functools.lru_cache(maxsize=None)
def free(layout, train):
    """The trains that a step with any turnouts thrown can make of it, the end 1 first."""
    number, _, leaving = train
    joint = facing(piece_ends(*layout[number])[leaving])
    there = [(other, end) for other, end, pose in all_ends(layout) if pose == joint]
    return tuple(other for other in all_trains(layout) if other[:2] in there)


def stepped(layout, thrown, train):
    """The train behind one step, or None."""
    steps = free(layout, train)
    if len(steps) == 2:
        return steps[1] if steps[0][0] in thrown else steps[0]
    return steps[0] if steps else None


def shortest_by_trial(layout, train, goal):
    """Of all routes without a train twice, those with the fewest trains; of these the one by the ends 1."""
    routes = [(train,)]
    while routes:
        there = [route for route in routes if route[-1] == goal]
        if there:
            return by_the_ends_1(there)
        routes = [route + (ahead,) for route in routes for ahead in free(layout, route[-1]) if ahead not in route]
    return None


def by_the_ends_1(routes):
    """The route that takes the end 1 at the first turnout at which some of them differ."""
    while len(routes) > 1:
        at = min(at for at in range(len(routes[0])) if len({route[at] for route in routes}) > 1)
        routes = [route for route in routes if route[at][1:] == (0, 1)]
    return routes[0]


def trains_reached(layout, train):
    """All trains to which it has a route."""
    reached = [train]
    for here in reached:
        reached.extend(ahead for ahead in free(layout, here) if ahead not in reached)
    return reached


def some_pairs(layout, many):
    """Some pairs of trains, the same ones each time."""
    pairs = list(itertools.product(all_trains(layout), repeat=2))
    return pairs if len(pairs) <= many else random.Random(len(pairs)).sample(pairs, many)


def faced(train):
    piece, entry, leaving = train
    return (piece, leaving, entry)


def sets_that_hang_together(layout):
    """Sets of trains: those that share a free step are put together until none is left."""
    sets = [{train} for train in all_trains(layout)]
    for train in all_trains(layout):
        for ahead in free(layout, train):
            together = [one for one in sets if train in one or ahead in one]
            sets = [one for one in sets if one not in together] + [set().union(*together)]
    return sets
