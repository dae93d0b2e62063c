"""Runs by blocks, where nothing collides (o1 to o3)."""

from railshut.errors import BadPiece
from railshut.shapes import is_integer, is_tuple
from railshut.traffic import Traffic
from railshut.trains import step_in


def are_blocks(layout, blocks):
    """Whether they are right blocks of the layout, whatever they are."""
    if not is_tuple(blocks) or not all([_is_block(layout, block) for block in blocks]):
        return False
    pieces = [piece for block in blocks for piece in block]
    firsts = [block[0] for block in blocks]
    return len(set(pieces)) == len(pieces) and firsts == sorted(firsts)


def block_of(blocks, piece):
    """The pieces of the block of a piece; a piece that is in none of them is one for itself."""
    for block in blocks:
        if piece in block:
            return tuple(block)
    return (piece,)


class BlockRun:
    """Up to three trains on a layout, no two in one block; each deed can be undone."""

    def __init__(self, layout, blocks):
        if not are_blocks(layout, blocks):
            raise BadPiece("no blocks")
        self._blocks = blocks
        self._traffic = Traffic(layout)

    def add(self, train):
        """Adds a train; its number."""
        return self._traffic.enter(train, block_of(self._blocks, train[0]))

    def toggle(self, number):
        """Toggles a turnout; whether it is thrown now."""
        return self._traffic.switch(number)

    def tick(self):
        """Lets each train, one by one, make a step or wait; how many of them made one."""
        trains = self._traffic.running
        for at, train in enumerate(self._traffic.running):
            ahead = step_in(self._traffic.table, self._traffic.switched, train)
            if ahead is not None and self._may_come(trains, at, ahead):
                trains = trains[:at] + (ahead,) + trains[at + 1:]
        return self._traffic.move(trains)

    def undo(self):
        """Takes back the last deed that was not undone; False if none is kept."""
        return self._traffic.take_back()

    def trains(self):
        """The trains, by their numbers."""
        return self._traffic.running

    def thrown(self):
        """The thrown turnouts, ascending."""
        return self._traffic.switched

    def clock(self):
        """How many ticks there were."""
        return self._traffic.ticks

    def is_stuck(self):
        """Whether no train can make a step, however the turnouts are thrown."""
        trains, table = self._traffic.running, self._traffic.table
        steps = [(at, ahead) for at, train in enumerate(trains) for ahead in table[train]]
        return not any([self._may_come(trains, at, ahead) for at, ahead in steps])

    def _may_come(self, trains, at, ahead):
        """Whether one of the trains may make a step: no other one is in the block to which it leads."""
        # In the block in which it is no other one is, so this lets it go on there, too.
        block = block_of(self._blocks, ahead[0])
        return not any([other[0] in block for other in trains[:at] + trains[at + 1:]])


def _is_block(layout, block):
    """Whether it is an ascending tuple of pieces of the layout, not an empty one."""
    if not is_tuple(block) or not all([is_integer(piece) for piece in block]):
        return False
    pieces = [number for number, piece in enumerate(layout) if piece is not None and number in block]
    return block != () and list(block) == pieces
