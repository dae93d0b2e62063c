"""The same layout told in other ways: laid elsewhere, mirrored, with pieces placed from other ends, under other numbers."""

import random

from tests.floors import all_ends, facing, from_other_ends, piece_ends, put_elsewhere
from tests.model import laid_by_steps


class Variant:
    """A layout, and what each number, piece and train of the first one is in it."""

    def __init__(self, name, first, layout, pose_of=None, number_of=None):
        self.name, self.layout = name, layout
        self._number_of = number_of or {number: number for number in range(len(first))}
        pose_of = pose_of or (lambda pose: pose)
        there = {(number, pose): end for number, end, pose in all_ends(layout)}
        self._end_of = {
            (number, end): there[self._number_of[number], pose_of(pose)] for number, end, pose in all_ends(first)
        }

    def number(self, number):
        return self._number_of[number]

    def numbers(self, numbers):
        """The ascending tuple of what the numbers are."""
        return tuple(sorted(self._number_of[number] for number in numbers))

    def train(self, train):
        number, entry, leaving = train
        return (self._number_of[number], self._end_of[number, entry], self._end_of[number, leaving])


def mirrored_pose(pose):
    a, b, c, d, heading = pose
    return (a, -d, -c, -b, -heading % 8)


def mirrored_piece(kind, pose):
    """The piece on the other side of a line to the east: a curve is placed from its other end then."""
    if kind == "C":
        return ("C", facing(mirrored_pose(piece_ends(kind, pose)[1])))
    return ({"P": "Q", "Q": "P"}.get(kind, kind), mirrored_pose(pose))


def mirrored_layout(layout):
    return tuple(piece and mirrored_piece(*piece) for piece in layout)


def under_other_numbers(layout, seed):
    """The same pieces in another order, with gaps where there is room; and the new number of each old one."""
    pick = random.Random(seed)
    places = list(range(max(len(layout), min(24, len(layout) + 2))))
    pick.shuffle(places)
    number_of = dict(enumerate(places[:len(layout)]))
    pieces = [None] * len(places)
    for number, piece in enumerate(layout):
        pieces[number_of[number]] = piece
    return tuple(pieces), number_of


def variants(layout, seed=5):
    """Some of each."""
    found = []
    for motion in ((5, -7, 11, 2, 6), (10 ** 20, 0, -3, 1, 3)):
        found.append(Variant(f"at {motion}", layout, put_elsewhere(layout, motion), lambda pose, by=motion: laid_by_steps(by, pose)))
    found.append(Variant("mirrored", layout, mirrored_layout(layout), mirrored_pose))
    for by in (1, 2, 3):
        found.append(Variant(f"from ends {by}", layout, from_other_ends(layout, by)))
    for more in range(3):
        pieces, number_of = under_other_numbers(layout, seed + more)
        found.append(Variant(f"numbers {number_of}", layout, pieces, None, number_of))
    return found
