"""Inventories: how many pieces there are of each kind, and how they are packed into loops (i1, i2)."""

from railshut.boxes import holds, loops_of

# The kinds in the order in which they are counted.
KINDS = "SHCPQX"

# No loop of a packing has more pieces.
MOST_PIECES = 10


def pieces_of_layout(layout):
    """How many pieces of each kind the layout has."""
    kinds = [piece[0] for piece in layout if piece is not None]
    return tuple([kinds.count(kind) for kind in KINDS])


def pieces_of_row(row):
    """How many pieces of each kind the row has; its turnouts and crossings are none."""
    return (row.count("S"), row.count("H"), row.count("L") + row.count("R"), 0, 0, 0)


def left_of(box, row):
    """The box with the row's pieces taken away; None if there are not enough."""
    if not holds(box, row):
        return None
    return tuple([many - taken for many, taken in zip(box, pieces_of_row(row))])


def fullest_packing(box):
    """The packing with the most pieces, then the fewest loops, then the first one; () if there is none."""
    packings = _packings(box, loops_of(box, MOST_PIECES))
    return min(packings, key=lambda packing: (-len("".join(packing)), len(packing), packing))


def _packings(box, words):
    """All packings of a box with these words, in order, the one without loops ahead."""
    packings = [()]
    for at, word in enumerate(words):
        left = left_of(box, word)
        if left is not None:
            packings.extend([(word,) + others for others in _packings(left, words[at:])])
    return packings
