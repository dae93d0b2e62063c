"""Rows of pieces, and where they lead (c2, r1, r2, r3)."""

from railshut.poses import HOME, laid

# The letters in the order of the alphabet, which is the order of rows.
LETTERS = "HLRS"

# Where each letter leads from home.
LEADS = {
    "H": (1, 0, 0, 0, 0),
    "L": (0, 0, 2, -2, 1),
    "R": (0, 2, -2, 0, 7),
    "S": (2, 0, 0, 0, 0),
}

MIRRORED = {"H": "H", "L": "R", "R": "L", "S": "S"}


def lead(pose, row):
    """The pose to which a row leads from a pose."""
    here = pose
    for letter in row:
        here = laid(here, LEADS[letter])
    return here


def poses_along(row):
    """The poses from home on, each a piece further: one more than the row has pieces."""
    poses = [HOME]
    for letter in row:
        poses.append(laid(poses[-1], LEADS[letter]))
    return tuple(poses)


def shuts(row):
    """Whether the row leads from the home pose to the home pose."""
    return lead(HOME, row) == HOME


def backwards(row):
    """The row run backwards: what is a curve to the left is one to the right then."""
    return mirrored(row[::-1])


def mirrored(row):
    """The row with L and R exchanged."""
    return "".join([MIRRORED[letter] for letter in row])


def turn(row):
    """The number of L less the number of R."""
    return row.count("L") - row.count("R")


def tally(row):
    """How many steps the row goes in the directions 0 to 3, less those in the opposite ones."""
    return lead(HOME, row)[:4]
