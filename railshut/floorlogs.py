"""Floors with a journal (d1)."""

from railshut.deeds import do_again, line_of
from railshut.layouts import Layout
from railshut.layouttext import POSE_LIMITS
from railshut.numerals import read_numbers
from railshut.pieces import ENDS_AHEAD
from railshut.rowtext import read_short, short_text

# No layout has as many pieces; a number that is too great for it is refused by the floor.
NUMBER_LIMITS = ((0, 999),)


class FloorLog:
    """A floor that keeps a journal of all deeds."""

    def __init__(self):
        self._floor = Layout()
        self._lines = []

    def place(self, kind, pose):
        """Places a piece; its number."""
        number = self._floor.place(kind, pose)
        self._lines.append(line_of(("place", kind) + pose))
        return number

    def lay(self, pose, row):
        """Places a piece for each letter, one behind the other, or none at all; their numbers."""
        numbers = self._floor.lay(pose, row)
        self._lines.append(line_of(("lay",) + pose + (short_text(row),)))
        return numbers

    def remove(self, number):
        """Takes a piece away; its number stays unused."""
        self._floor.remove(number)
        self._lines.append(line_of(("remove", number)))

    def undo(self):
        """Takes back the last deed that was not undone; False if there is none."""
        if not self._floor.undo():
            return False
        self._lines.append(line_of(("undo",)))
        return True

    def layout(self):
        """For each number that was used the placed piece, or None if it was taken away."""
        return self._floor.layout()

    def journal(self):
        """A line for each deed that was done."""
        return "".join(self._lines)


def replay_floor(text):
    """The floor log of a journal, or of a beginning of one; BadJournal tells the number of the first wrong line."""
    log = FloorLog()
    do_again(log, text, _do)
    return log


def _do(log, words):
    """Does what the words of a line tell; False if they tell no deed, or there is nothing to undo."""
    if words[0] == "place":
        return _do_place(log, words[1:])
    if words[0] == "lay":
        return _do_lay(log, words[1:])
    if words[0] == "remove":
        return _do_remove(log, words[1:])
    return words == ["undo"] and log.undo()


def _do_place(log, told):
    pose = read_numbers(told[1:], POSE_LIMITS)
    if pose is None or told[0] not in ENDS_AHEAD:
        return False
    log.place(told[0], pose)
    return True


def _do_lay(log, told):
    pose = read_numbers(told[:-1], POSE_LIMITS)
    if pose is None or told[-1] == "":
        return False
    log.lay(pose, read_short(told[-1]))
    return True


def _do_remove(log, told):
    numbers = read_numbers(told, NUMBER_LIMITS)
    if numbers is None:
        return False
    log.remove(numbers[0])
    return True
