"""Motions that take a layout to itself, and the pieces that are alike by them (a1, a2)."""

from railshut.layouts import ends_in
from railshut.poses import HOME, laid, seen
from railshut.samelayouts import pieces_with_ends, told_piece


def motions(layout):
    """The motions that take the layout to one with just the same pieces, by heading, then as tuples."""
    pieces = pieces_with_ends(layout)
    there = sorted([told_piece(kind, ends) for kind, ends in pieces])
    found = [motion for motion in _trials(layout) if sorted(_moved_pieces(motion, pieces)) == there]
    return tuple(sorted(found, key=lambda motion: (motion[4], motion)))


def alike(layout):
    """The sets of pieces that are alike, each ascending, ordered by their first pieces."""
    pieces = pieces_with_ends(layout)
    numbers = [number for number, piece in enumerate(layout) if piece is not None]
    number_of = {told_piece(kind, ends): number for number, (kind, ends) in zip(numbers, pieces)}
    takings = [[number_of[told] for told in _moved_pieces(motion, pieces)] for motion in motions(layout)]
    sets = [tuple(sorted({taking[at] for taking in takings})) for at in range(len(numbers))]
    return tuple([same for number, same in zip(numbers, sets) if same[0] == number])


def _trials(layout):
    """The motions that take the first end of the layout to one of its ends: no other can take it to itself."""
    poses = [pose for _, _, pose in ends_in(layout)]
    return [laid(pose, seen(poses[0], HOME)) for pose in poses]


def _moved_pieces(motion, pieces):
    """What tells the pieces where the motion takes them, in the order of the pieces."""
    return [told_piece(kind, [laid(motion, end) for end in ends]) for kind, ends in pieces]
