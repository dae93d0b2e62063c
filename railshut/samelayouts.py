"""Layouts that are the same by a motion (m1)."""

from railshut.layouts import ends_in
from railshut.pieces import ends_of
from railshut.poses import back, seen


def word(layout):
    """The least of what is told of all pieces, with each end of the layout taken for home."""
    pieces = pieces_with_ends(layout)
    frames = [back(pose) for _, _, pose in ends_in(layout)]
    return min([_seen_pieces(frame, pieces) for frame in frames], default=())


def are_same(layout, other):
    """Whether one layout, turned and moved, has just the pieces of the other, whatever their numbers are."""
    return word(layout) == word(other)


def pieces_with_ends(layout):
    """(kind, ends) of all pieces of a layout, in order."""
    return [(piece[0], ends_of(piece[0], piece[1])) for piece in layout if piece is not None]


def told_piece(kind, ends):
    """What tells a piece, from whichever of its ends it was placed."""
    return (kind, tuple(sorted(ends)))


def _seen_pieces(frame, pieces):
    """All pieces as they are told from a frame, in order."""
    told = [told_piece(kind, [seen(frame, end) for end in ends]) for kind, ends in pieces]
    return tuple(sorted(told))
