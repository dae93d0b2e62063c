"""Texts of layouts (x1, x2)."""

from railshut.errors import BadLayout
from railshut.layouts import reason_against
from railshut.numerals import read_numbers
from railshut.pieces import ENDS_AHEAD

# The least and the greatest numbers of a pose in a text.
POSE_LIMITS = ((-999, 999), (-999, 999), (-999, 999), (-999, 999), (0, 7))


def layout_text(layout):
    """For each number the piece, if it is there, and a semicolon behind it."""
    return "".join([_piece_text(piece) + ";" for piece in layout])


def parse_layout(text):
    """The layout of a text; BadLayout with the place of the first number that is wrong."""
    told = text.split(";")
    layout = []
    for place, part in enumerate(told[:-1]):
        pieces = _pieces_of(place, part)
        # With more pieces than a floor holds, this refuses the twenty-fifth one, too.
        if reason_against(layout, pieces) is not None:
            raise BadLayout(place)
        layout.extend(pieces)
    if told[-1] != "":
        raise BadLayout(len(layout))
    return tuple(layout)


def _piece_text(piece):
    if piece is None:
        return ""
    kind, pose = piece
    return kind + ",".join([str(number) for number in pose])


def _pieces_of(place, part):
    """The one piece that a part of the text tells, or None for it, in a list."""
    if part == "":
        return [None]
    pose = read_numbers(part[1:].split(","), POSE_LIMITS)
    if part[0] not in ENDS_AHEAD or pose is None:
        raise BadLayout(place)
    return [(part[0], pose)]
