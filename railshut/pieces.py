"""Placed pieces and their ends (c4, f1)."""

from railshut.poses import back, laid

# For each kind, the ends 1 and on of a piece at the home pose.
ENDS_AHEAD = {
    "S": ((2, 0, 0, 0, 0),),
    "H": ((1, 0, 0, 0, 0),),
    "C": ((0, 0, 2, -2, 1),),
    "P": ((2, 0, 0, 0, 0), (0, 0, 2, -2, 1)),
    "Q": ((2, 0, 0, 0, 0), (0, 2, -2, 0, 7)),
    "X": ((2, 0, 0, 0, 0), (1, 0, 1, 0, 2), (1, 0, -1, 0, 6)),
}


def ends_of(kind, pose):
    """The ends of a placed piece, each a position and the heading outwards, in order."""
    return tuple([back(pose)] + [laid(pose, end) for end in ENDS_AHEAD[kind]])
