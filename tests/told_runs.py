"""Runs that are told from the beginning each time: what the tests compare the program's runs with."""

import random

from tests.tracks import all_trains, stepped, turnouts


class ToldRun:
    """A run that keeps all that it ever was; blocks, if there are some, are sets of pieces."""

    def __init__(self, layout, blocks=None):
        self.layout, self.blocks = layout, blocks
        self.stages = [((), (), 0)]
        self.lines = []

    def now(self):
        return self.stages[-1]

    def block(self, piece):
        for block in self.blocks or ():
            if piece in block:
                return set(block)
        return {piece}

    def done(self, line, stage):
        # What lies more than sixty deeds back is forgotten.
        self.stages = (self.stages + [stage])[-61:]
        self.lines.append(line + "\n")

    def add(self, train):
        trains, thrown, clock = self.now()
        if train not in all_trains(self.layout):
            return "no train"
        if len(trains) >= 3:
            return "too many trains"
        if any(other[0] in self.block(train[0]) for other in trains):
            return "occupied"
        self.done("add {} {} {}".format(*train), (trains + (train,), thrown, clock))
        return len(trains)

    def toggle(self, number):
        trains, thrown, clock = self.now()
        if number not in turnouts(self.layout):
            return "no turnout"
        if number in [train[0] for train in trains]:
            return "occupied"
        self.done(f"toggle {number}", (trains, tuple(sorted(set(thrown) ^ {number})), clock))
        return number in self.now()[1]

    def ahead(self):
        """The trains behind a tick, and the pieces of a collision."""
        trains, thrown, _ = self.now()
        behind = [stepped(self.layout, thrown, train) or train for train in trains]
        pieces = set()
        for at, one in enumerate(behind):
            for other_at, other in enumerate(behind[:at]):
                if one[0] == other[0]:
                    pieces.add(one[0])
                if one[0] == trains[other_at][0] and other[0] == trains[at][0] and one[0] != other[0]:
                    pieces |= {one[0], other[0]}
        return tuple(behind), tuple(sorted(pieces))

    def tick(self):
        if self.blocks is not None:
            return self.tick_by_blocks()
        trains, thrown, clock = self.now()
        behind, pieces = self.ahead()
        if pieces:
            return pieces
        self.done("tick", (behind, thrown, clock + 1))
        return sum(stepped(self.layout, thrown, train) is not None for train in trains)

    def tick_by_blocks(self):
        trains, thrown, clock = self.now()
        places, made = list(trains), 0
        for at in range(len(places)):
            ahead = stepped(self.layout, thrown, places[at])
            if ahead is None:
                continue
            others = places[:at] + places[at + 1:]
            stays = ahead[0] in self.block(places[at][0])
            if stays or not any(other[0] in self.block(ahead[0]) for other in others):
                places[at] = ahead
                made += 1
        self.done("tick", (tuple(places), thrown, clock + 1))
        return made

    def undo(self):
        if len(self.stages) == 1:
            return False
        self.stages.pop()
        self.lines.append("undo\n")
        return True


def some_train(pick, layout):
    trains = all_trains(layout)
    if not trains or pick.random() < 0.05:
        return pick.choice(((99, 0, 1), (-1, 0, 1), (0, 0, 0), (0, 1, 3)))
    return pick.choice(trains)


def some_deed(pick, layout, ticks=0.6):
    """A deed picked here or there: its name and what is told to it."""
    if pick.random() < ticks:
        return "tick", ()
    deed = pick.choice(("add", "add", "toggle", "toggle", "undo"))
    if deed == "add":
        return deed, (some_train(pick, layout),)
    if deed == "toggle":
        numbers = turnouts(layout) if pick.random() < 0.9 else []
        return deed, (pick.choice(numbers or (-1, 0, 1, 99)),)
    return deed, ()


def some_deeds(layout, many, seed, ticks=0.6):
    pick = random.Random(seed)
    return [some_deed(pick, layout, ticks) for _ in range(many)]


def led(run, deed, told):
    """What a deed gives; the reason or the pieces, where it is refused."""
    try:
        return getattr(run, deed)(*told)
    except ValueError as refused:
        field = "pieces" if type(refused).__name__ == "Collision" else "reason"
        kinds = {"add": "BadTrain", "toggle": "BadPiece", "tick": "Collision"}
        assert type(refused).__name__ == kinds[deed], refused
        return getattr(refused, field)


def told_of(run):
    return run.trains(), run.thrown(), run.clock()
