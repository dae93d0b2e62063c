"""The errors of railshut (c7)."""


class RailError(ValueError):
    """The base of all other errors."""


class BadRow(RailError):
    """A row, or the text of one, that is refused."""

    def __init__(self, reason):
        super().__init__(f"bad row: {reason}")
        self.reason = reason


class BadLayout(RailError):
    """The text of a layout that is none."""

    def __init__(self, place):
        super().__init__(f"bad layout at number {place}")
        self.place = place


class BadPiece(RailError):
    """Something that cannot be done with a piece or with an end."""

    def __init__(self, reason):
        super().__init__(f"bad piece: {reason}")
        self.reason = reason


class BadTrain(RailError):
    """Something that cannot be done with a train, or a paper about trains that is none."""

    def __init__(self, reason):
        super().__init__(f"bad train: {reason}")
        self.reason = reason


class Collision(RailError):
    """A tick with which trains would collide."""

    def __init__(self, pieces):
        super().__init__(f"collision on the pieces {pieces}")
        self.pieces = pieces


class BadJournal(RailError):
    """A journal with a line that is none."""

    def __init__(self, place):
        super().__init__(f"bad journal at line {place}")
        self.place = place
