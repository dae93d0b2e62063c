"""Runs: trains that are led tick by tick (n1 to n3)."""

from itertools import combinations

from railshut.deeds import line_of
from railshut.errors import Collision
from railshut.meetings import have_met
from railshut.traffic import Traffic
from railshut.trains import step_in


class Run:
    """Up to three trains on a layout, with a journal; each deed can be undone."""

    def __init__(self, layout):
        self._layout = layout
        self._traffic = Traffic(layout)
        self._lines = []

    def add(self, train):
        """Adds a train; its number."""
        number = self._traffic.enter(train, (train[0],))
        self._lines.append(line_of(("add",) + train))
        return number

    def toggle(self, number):
        """Toggles a turnout; whether it is thrown now."""
        is_thrown = self._traffic.switch(number)
        self._lines.append(line_of(("toggle", number)))
        return is_thrown

    def tick(self):
        """Lets each train make a step; how many of them made one."""
        ahead = self._ahead_of(self._traffic.running)
        pieces = _collided(self._traffic.running, ahead)
        if pieces:
            raise Collision(pieces)
        self._lines.append(line_of(("tick",)))
        return self._traffic.move(ahead)

    def undo(self):
        """Takes back the last deed that was not undone; False if none is kept."""
        if not self._traffic.take_back():
            return False
        self._lines.append(line_of(("undo",)))
        return True

    def branch(self):
        """Another run that is as this one is, with nothing to undo and an empty journal."""
        run = Run(self._layout)
        run._traffic.become(self._traffic)
        return run

    def trains(self):
        """The trains, by their numbers."""
        return self._traffic.running

    def thrown(self):
        """The thrown turnouts, ascending."""
        return self._traffic.switched

    def clock(self):
        """How many ticks there were."""
        return self._traffic.ticks

    def forecast(self, most):
        """The pieces of the trains, now and behind each of so many ticks; it ends ahead of a collision."""
        trains = self._traffic.running
        told = [_pieces_of(trains)]
        for _ in range(most):
            ahead = self._ahead_of(trains)
            if _collided(trains, ahead):
                break
            trains = ahead
            told.append(_pieces_of(trains))
        return tuple(told)

    def journal(self):
        """A line for each deed that was done."""
        return "".join(self._lines)

    def _ahead_of(self, trains):
        """The trains behind a tick; one that would run off stays as it is."""
        table, thrown = self._traffic.table, self._traffic.switched
        return tuple([step_in(table, thrown, train) or train for train in trains])


def _pieces_of(trains):
    return tuple([train[0] for train in trains])


def _collided(before, behind):
    """The pieces on which trains are together behind a tick, or have passed through each other, ascending."""
    pieces = []
    for one, other in combinations(range(len(before)), 2):
        if have_met((before[one], before[other]), (behind[one], behind[other])):
            pieces.extend([behind[one][0], behind[other][0]])
    return tuple(sorted(set(pieces)))
