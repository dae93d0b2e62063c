"""Layouts: what lies on the floor, and how it hangs together (c5, f2 to f6)."""

from railshut.errors import BadPiece
from railshut.pieces import ends_of
from railshut.poses import back
from railshut.reaching import reached_from
from railshut.rows import lead

MOST_NUMBERS = 24

# The kinds of the letters of rows; an R is a curve as well, but laid from its end 1.
LAID_FORWARDS = {"S": "S", "H": "H", "L": "C"}


class Layout:
    """A floor: pieces are placed, laid and removed there, and each of these deeds can be undone."""

    def __init__(self):
        # The list is never changed, only replaced: so the past can keep the earlier ones as they were.
        self._pieces = []
        self._past = []

    def place(self, kind, pose):
        """Places a piece; its number."""
        return self._put([(kind, pose)])[0]

    def lay(self, pose, row):
        """Places a piece for each letter, one behind the other, or none at all; their numbers."""
        return self._put(pieces_along(pose, row))

    def remove(self, number):
        """Takes a piece away; its number stays unused."""
        self._refuse_no_piece(number)
        self._past.append(self._pieces)
        self._pieces = self._pieces[:number] + [None] + self._pieces[number + 1:]

    def undo(self):
        """Takes back the last deed that was not undone; False if there is none."""
        if not self._past:
            return False
        self._pieces = self._past.pop()
        return True

    def layout(self):
        """For each number that was used the placed piece, or None if it was taken away."""
        return tuple(self._pieces)

    def ends(self):
        """(number, end, pose) of all ends, in order."""
        return ends_in(self._pieces)

    def joined(self, number, end):
        """The pair (number, end) to which an end is joined, or None."""
        self._refuse_no_piece(number)
        kind, pose = self._pieces[number]
        if not 0 <= end < len(ends_of(kind, pose)):
            raise BadPiece("no such end")
        return joints_in(self._pieces).get((number, end))

    def open_ends(self):
        """The pairs (number, end) of all open ends, in order."""
        joints = joints_in(self._pieces)
        return tuple([(number, end) for number, end, _ in self.ends() if (number, end) not in joints])

    def islands(self):
        """The sets of pieces that hang together, each ascending, ordered by their first pieces."""
        neighbours = _neighbours_in(self._pieces)
        islands = [tuple(sorted(reached_from(neighbours, number))) for number in neighbours]
        return tuple([island for number, island in zip(neighbours, islands) if island[0] == number])

    def is_shut(self):
        """Whether no end is open."""
        return self.open_ends() == ()

    def _put(self, pieces):
        """Gives the pieces the next numbers, and tells these."""
        reason = reason_against(self._pieces, pieces)
        if reason is not None:
            raise BadPiece(reason)
        self._past.append(self._pieces)
        self._pieces = self._pieces + pieces
        return tuple(range(len(self._pieces) - len(pieces), len(self._pieces)))

    def _refuse_no_piece(self, number):
        if not 0 <= number < len(self._pieces) or self._pieces[number] is None:
            raise BadPiece("no such piece")


def ends_in(layout):
    """(number, end, pose) of all ends of a layout, in order."""
    placed = [(number, piece) for number, piece in enumerate(layout) if piece is not None]
    return tuple([
        (number, end, pose) for number, piece in placed for end, pose in enumerate(ends_of(piece[0], piece[1]))
    ])


def joints_in(layout):
    """For each joined end of a layout, a pair (number, end), the one to which it is joined."""
    at = {pose: (number, end) for number, end, pose in ends_in(layout)}
    return {at[pose]: at[back(pose)] for pose in at if back(pose) in at}


def pieces_along(pose, row):
    """The placed pieces of a row that is laid from a pose, one for each letter."""
    pieces = []
    here = pose
    for letter in row:
        ahead = lead(here, letter)
        pieces.append(("C", back(ahead)) if letter == "R" else (LAID_FORWARDS[letter], here))
        here = ahead
    return pieces


def reason_against(layout, pieces):
    """The first reason for which the pieces cannot be put on the layout; None if they can."""
    if len(layout) + len(pieces) > MOST_NUMBERS:
        return "too many pieces"
    # The ends that are there are all unlike, so each one that comes twice is a new one's fault.
    poses = [pose for _, _, pose in ends_in(list(layout) + list(pieces))]
    if len(set(poses)) < len(poses):
        return "ends overlap"
    return None


def _neighbours_in(layout):
    """For each piece of a layout, in order, the pieces to which its ends are joined."""
    neighbours = {number: [] for number, piece in enumerate(layout) if piece is not None}
    joints = joints_in(layout)
    for number, end in joints:
        neighbours[number].append(joints[(number, end)][0])
    return neighbours
