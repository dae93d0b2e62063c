"""Floors that the tests compare the program with: looked at piece by piece and end by end, not as the package does."""

import random

from tests.model import AT_HOME, HOME, all_rows, is_in_box, laid_by_steps, lead_by_steps

# Poses to which all that is laid at home is moved as well.
ELSEWHERE = (HOME, (0, 0, 0, 0, 3), (5, -7, 11, 2, 6), (-300, 41, 0, -9, 1), (10 ** 20, -3, 7, -(10 ** 15), 5))

# Rows that are balloons: they come back to where they began, facing round.
BALLOONS = ("LLRRRRRRSS", "RRLLLLLLSS", "SSLLLLLLRR", "SSRRRRRRLL")


def facing(pose):
    return pose[:4] + ((pose[4] + 4) % 8,)


def seen_by_steps(frame, pose):
    """The pose seen from a frame: moved first, then turned back."""
    away = tuple(there - here for here, there in zip(frame[:4], pose[:4]))
    turned = laid_by_steps((0, 0, 0, 0, -frame[4] % 8), away + (0,))
    return turned[:4] + ((pose[4] - frame[4]) % 8,)


def piece_ends(kind, pose):
    return [laid_by_steps(pose, end) for end in AT_HOME[kind]]


def all_ends(layout):
    """[(number, end, pose)] of all ends of a layout."""
    return [
        (number, end, pose) for number, piece in enumerate(layout) if piece is not None
        for end, pose in enumerate(piece_ends(*piece))
    ]


def along(pose, row):
    """The placed pieces of a row that is laid from a pose."""
    pieces = []
    for at, letter in enumerate(row):
        here, ahead = lead_by_steps(pose, row[:at]), lead_by_steps(pose, row[:at + 1])
        pieces.append(("C", facing(ahead)) if letter == "R" else ({"S": "S", "H": "H", "L": "C"}[letter], here))
    return tuple(pieces)


def why_not(layout, pieces):
    """The first reason for which pieces cannot be put on the layout, or None."""
    if len(layout) + len(pieces) > 24:
        return "too many pieces"
    there = [pose for _, _, pose in all_ends(layout)]
    for piece in pieces:
        for end in piece_ends(*piece):
            if end in there:
                return "ends overlap"
            there.append(end)
    return None


def joints(layout):
    """{(number, end): (number, end)} of all joined ends, each pair of ends looked at."""
    ends = all_ends(layout)
    return {
        (number, end): (other, far) for number, end, pose in ends for other, far, there in ends
        if pose[:4] == there[:4] and (pose[4] - there[4]) % 8 == 4
    }


def islands(layout):
    """The sets of pieces that hang together: sets that share a joint are put together until none is left."""
    sets = [{number} for number, piece in enumerate(layout) if piece is not None]
    for (number, _), (other, _) in joints(layout).items():
        together = [one for one in sets if number in one or other in one]
        sets = [one for one in sets if one not in together] + [set().union(*together)]
    return tuple(sorted(tuple(sorted(one)) for one in sets))


class ToldFloor:
    """A floor that keeps all its deeds and does them again from the beginning each time."""

    def __init__(self):
        self.deeds = []

    def layout(self):
        pieces = []
        for deed, told in self.deeds:
            if deed == "put":
                pieces.extend(told)
            else:
                pieces[told] = None
        return tuple(pieces)

    def put(self, pieces):
        """The first reason against it; or the numbers of the pieces."""
        layout = self.layout()
        reason = why_not(layout, pieces)
        if reason is None:
            self.deeds.append(("put", pieces))
        return reason or tuple(range(len(layout), len(layout) + len(pieces)))

    def remove(self, number):
        layout = self.layout()
        if number not in range(len(layout)) or layout[number] is None:
            return "no such piece"
        self.deeds.append(("remove", number))
        return None

    def undo(self):
        return bool(self.deeds and self.deeds.pop())


def some_deed(pick, layout):
    """A deed picked here or there: often one that is joined to what lies there."""
    ends = [pose for _, _, pose in all_ends(layout)]
    near = tuple(pick.randint(-2, 2) for _ in range(4)) + (pick.randrange(8),)
    pose = pick.choice(ends) if ends and pick.random() < 0.7 else near
    deed = pick.choice(("place", "place", "place", "lay", "lay", "remove", "remove", "undo"))
    if deed == "place":
        return deed, (pick.choice("SHCPQX"), pose)
    if deed == "lay":
        return deed, (pose, "".join(pick.choice("HLRS") for _ in range(pick.randint(1, 7))))
    return deed, ((pick.randint(-2, 25),) if deed == "remove" else ())


def some_layouts(many, seed=11, deeds=14):
    """Layouts that were led by deeds picked here and there, the same ones each time."""
    pick = random.Random(seed)
    found = []
    for _ in range(many):
        floor = ToldFloor()
        for _ in range(deeds):
            deed, told = some_deed(pick, floor.layout())
            if deed == "remove":
                floor.remove(*told)
            elif deed != "undo":
                floor.put(along(*told) if deed == "lay" else (told,))
        found.append(floor.layout())
    return found


def put_elsewhere(layout, motion):
    """The layout turned and moved."""
    return tuple(piece and (piece[0], laid_by_steps(motion, piece[1])) for piece in layout)


def from_other_ends(layout, by):
    """The same pieces, straights, half straights and crossings placed from the end of this number, counted around."""
    found = []
    for piece in layout:
        if piece is not None and piece[0] in "SHX":
            ends = piece_ends(*piece)
            piece = (piece[0], facing(ends[by % len(ends)]))
        found.append(piece)
    return tuple(found)


def piece_words(layout):
    """(kind, ends in order) of all pieces, in order."""
    return sorted((piece[0], tuple(sorted(piece_ends(*piece)))) for piece in layout if piece is not None)


def joining_rows(layout, first, second, most):
    """All rows of at most so many letters that can be laid between two ends, shortest ones ahead, then in order."""
    pose_of = {(number, end): pose for number, end, pose in all_ends(layout)}
    goal = facing(pose_of[second])
    rows = [row for row in all_rows(most) if lead_by_steps(pose_of[first], row) == goal]
    return [row for row in rows if why_not(layout, along(pose_of[first], row)) is None]


def in_box(rows, box):
    return [row for row in rows if is_in_box(row, box)]
