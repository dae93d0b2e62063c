"""Traffic: what all runs have, and how their deeds change it (n1, n3)."""

from railshut.errors import BadPiece, BadTrain
from railshut.trains import refuse_no_train, steps_table, turnouts_in

MOST_TRAINS = 3
MOST_KEPT = 60


class Traffic:
    """Trains on a layout, its thrown turnouts and a clock; and what they were ahead of the last deeds."""

    def __init__(self, layout):
        self.table = steps_table(layout)
        self._turnouts = turnouts_in(layout)
        # These three are replaced, never changed: so the past can keep them as they were.
        self.running = ()
        self.switched = ()
        self.ticks = 0
        self._past = []

    def enter(self, train, room):
        """Adds a train, for which no train may be on the pieces of the room; its number."""
        refuse_no_train(self.table, train)
        if len(self.running) == MOST_TRAINS:
            raise BadTrain("too many trains")
        if self._is_taken(room):
            raise BadTrain("occupied")
        self._keep()
        self.running = self.running + (train,)
        return len(self.running) - 1

    def switch(self, number):
        """Toggles a turnout; whether it is thrown now."""
        if number not in self._turnouts:
            raise BadPiece("no turnout")
        if self._is_taken((number,)):
            raise BadPiece("occupied")
        self._keep()
        others = tuple([other for other in self.switched if other != number])
        is_thrown = others == self.switched
        self.switched = tuple(sorted(others + (number,))) if is_thrown else others
        return is_thrown

    def move(self, trains):
        """Lets the trains be where a tick brings them; how many of them have made a step."""
        # A step leads onto another piece, so a train that is as it was has made none.
        stepped = [behind for before, behind in zip(self.running, trains) if before != behind]
        self._keep()
        self.running = trains
        self.ticks += 1
        return len(stepped)

    def take_back(self):
        """Takes back the last deed that is kept; False if there is none."""
        if not self._past:
            return False
        self.running, self.switched, self.ticks = self._past.pop()
        return True

    def become(self, other):
        """Takes over all but the past."""
        self.running, self.switched, self.ticks = other.running, other.switched, other.ticks

    def _is_taken(self, room):
        return any([train[0] in room for train in self.running])

    def _keep(self):
        self._past = (self._past + [(self.running, self.switched, self.ticks)])[-MOST_KEPT:]
