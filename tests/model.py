"""What the tests compare the program with: worked out here by other means than in the package."""

import cmath
import functools
import itertools
import math
import random

# One step in each of the eight directions.
STEPS = (
    (1, 0, 0, 0), (0, 1, 0, 0), (0, 0, 1, 0), (0, 0, 0, 1),
    (-1, 0, 0, 0), (0, -1, 0, 0), (0, 0, -1, 0), (0, 0, 0, -1),
)

# The steps of each letter as DOC.md tells them: (direction beyond the heading, how many), and the turn.
LETTER_STEPS = {"S": (((0, 2),), 0), "H": (((0, 1),), 0), "L": (((2, 2), (7, 2)), 1), "R": (((1, 2), (6, 2)), 7)}

HOME = (0, 0, 0, 0, 0)
HOME_BACK = (0, 0, 0, 0, 4)

# The ends of each kind of piece at the home pose.
AT_HOME = {
    "S": (HOME_BACK, (2, 0, 0, 0, 0)),
    "H": (HOME_BACK, (1, 0, 0, 0, 0)),
    "C": (HOME_BACK, (0, 0, 2, -2, 1)),
    "P": (HOME_BACK, (2, 0, 0, 0, 0), (0, 0, 2, -2, 1)),
    "Q": (HOME_BACK, (2, 0, 0, 0, 0), (0, 2, -2, 0, 7)),
    "X": (HOME_BACK, (2, 0, 0, 0, 0), (1, 0, 1, 0, 2), (1, 0, -1, 0, 6)),
}

# Small, great and negative numbers for the positions of poses.
POSITIONS = (
    (0, 0, 0, 0), (1, 2, 3, 4), (-5, 7, -11, 13), (2, 0, 0, -2), (-1, -1, -1, -1),
    (10 ** 30, -(10 ** 31) - 7, 3 ** 50, -(2 ** 99) + 1),
)

POSES = tuple(position + (heading,) for position in POSITIONS for heading in range(8))

# Rows that shut, of many kinds, up to 40 letters.
SHUT_ROWS = (
    "LLLLLLLL", "RRRRRRRR", "LLLLSLLLLS", "HLLLLHLLLL", "LLLLHHLLLLS", "SRRSRRSRRSRR", "HLHLHLHLHLHLHLHL",
    "LLLLLLSSRRRRRRSS", "SLLLLLLS" * 4, "L" * 16, "L" * 40, "LLLL" + "S" * 16 + "LLLL" + "S" * 16,
    "RRRR" + "H" * 16 + "RRRR" + "S" * 8, "LSLLSLLSLLSL", "LRLLLLLRLLLL", "LLLSSLSLLLSSLS", "LHLSLSHLLHLSLHSL",
    "LHLSLSHLLHLSLSHL",
)

# Rows that do not: for their turn, for their tally, for both.
OPEN_ROWS = (
    "S", "H", "L", "R", "HS", "LLLL", "LLLLLLL", "LLLLRRRR", "LR", "LLLLLLLLS", "LLLLLLLLH", "LLLLSLLLLH",
    "SLLLLLLS", "SRRRRRRS", "SLLLLLLS" * 2, "SLLLLLLS" * 3, "LLLSLLLLS", "S" * 40, "LR" * 20, "L" * 39, "L" * 39 + "R",
    "LLLL" + "S" * 16 + "LLLL" + "S" * 15 + "H", "LLSLLSLLSSLLS", "HSLLLLSLLLL",
)


def plane(position):
    """The position as a point of the plane, east and north: not exact, but unlike points lie far apart."""
    return sum(many * cmath.exp(1j * math.pi * at / 4) for at, many in enumerate(position))


def lead_by_steps(pose, row):
    """Where a row leads, step by step, as r1 has it in words."""
    position, heading = list(pose[:4]), pose[4]
    for letter in row:
        steps, more = LETTER_STEPS[letter]
        for beyond, many in steps:
            unit = STEPS[(heading + beyond) % 8]
            position = [have + many * new for have, new in zip(position, unit)]
        heading = (heading + more) % 8
    return tuple(position) + (heading,)


def laid_by_steps(pose, end):
    """An end that is seen from home, laid at a pose: each of its steps turned, one direction after the other."""
    position = list(pose[:4])
    for direction, many in enumerate(end[:4]):
        for at, one in enumerate(STEPS[(direction + pose[4]) % 8]):
            position[at] += many * one
    return tuple(position) + ((end[4] + pose[4]) % 8,)


def drawn(row, at=0j, eighths=0):
    """The point and the eighths to which a row leads, drawn with ruler and compasses."""
    for letter in row:
        ahead = cmath.exp(1j * math.pi * eighths / 4)
        if letter in "SH":
            at += ahead * (2 if letter == "S" else 1)
        else:
            side = 1 if letter == "L" else -1
            middle = at + 2j * side * ahead
            at = middle + (at - middle) * cmath.exp(1j * math.pi * side / 4)
            eighths += side
    return at, eighths


def drawn_shut(row):
    """Whether the drawing of a row ends as it began."""
    at, eighths = drawn(row)
    return abs(at) < 1e-6 and eighths % 8 == 0


def all_rows(most):
    """All rows of at most so many letters, by their number of letters, then by the alphabet."""
    for many in range(most + 1):
        for letters in itertools.product("HLRS", repeat=many):
            yield "".join(letters)


def some_rows(many, longest=40, seed=7):
    """Rows picked here and there, the same ones each time."""
    pick = random.Random(seed)
    return ["".join(pick.choice("HLRS") for _ in range(pick.randint(0, longest))) for _ in range(many)]


@functools.lru_cache(maxsize=None)
def shut_rows_by_trial():
    """All rows of at most 10 letters that shut, each row tried, by their number of letters, then by the alphabet."""
    places = {}
    for heading, letter in itertools.product(range(8), "HLRS"):
        at, eighths = drawn(letter, 0j, heading)
        places[letter, heading] = (at, eighths % 8)
    found = []
    level = [("", 0j, 0)]
    while level:
        found.extend(row for row, at, heading in level if heading == 0 and abs(at) < 1e-6)
        longer = []
        for row, at, heading in level if len(level[0][0]) < 10 else ():
            for letter in "HLRS":
                away, turned = places[letter, heading]
                longer.append((row + letter, at + away, turned))
        level = longer
    return tuple(found)


def forms(row):
    """The turned forms of a row: begun at each piece; as it is, run backwards, mirrored, both."""
    exchanged = str.maketrans("LR", "RL")
    for at in range(len(row)):
        begun = row[at:] + row[:at]
        yield from (begun, begun[::-1].translate(exchanged), begun.translate(exchanged), begun[::-1])


def is_in_box(row, box):
    """Whether there are enough pieces for the row, taken out of the box one by one."""
    left = dict(zip("SHC", box))
    for letter in row:
        left["C" if letter in "LR" else letter] -= 1
    return min(left.values()) >= 0


def boxes_of(many):
    """All boxes with just so many pieces in all."""
    return [box for box in itertools.product(range(many + 1), repeat=3) if sum(box) == many]
