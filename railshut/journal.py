"""Journals of runs, made again (j1)."""

from railshut.deeds import do_again
from railshut.numerals import read_numbers
from railshut.runs import Run

# No layout has as many pieces; a number that is too great for it is refused by the run.
LIMITS = (0, 999)


def replay(layout, text):
    """The run of a journal, or of a beginning of one; BadJournal tells the number of the first wrong line."""
    run = Run(layout)
    do_again(run, text, _do)
    return run


def _do(run, words):
    """Does what the words of a line tell; False if they tell no deed, or there is nothing to undo."""
    numbers = read_numbers(words[1:], [LIMITS] * (len(words) - 1))
    if numbers is None:
        return False
    deed = (words[0], len(numbers))
    if deed == ("add", 3):
        run.add(numbers)
    elif deed == ("toggle", 1):
        run.toggle(numbers[0])
    elif deed == ("tick", 0):
        run.tick()
    else:
        return deed == ("undo", 0) and run.undo()
    return True
