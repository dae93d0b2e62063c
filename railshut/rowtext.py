"""Short texts of rows (y1)."""

from railshut.errors import BadRow
from railshut.numerals import DIGITS
from railshut.rows import LETTERS

LONGEST = 40


def short_text(row):
    """The row with each run of one letter told by the letter and its number."""
    return "".join([letter + (str(many) if many > 1 else "") for letter, many in _runs(row)])


def read_short(text):
    """The row of a short text; BadRow("text") for a text that is none."""
    row = ""
    at = 0
    while at < len(text):
        after = _end_of_number(text, at + 1)
        row = row + _run_told(text[at], text[at + 1:after])
        if len(row) > LONGEST:
            raise BadRow("text")
        at = after
    # A row has one short text only, so any other writing of it shows here.
    if short_text(row) != text:
        raise BadRow("text")
    return row


def _runs(row):
    """The longest runs of one letter: pairs of the letter and how many there are, in order."""
    runs = []
    for letter in row:
        if runs and runs[-1][0] == letter:
            runs[-1] = (letter, runs[-1][1] + 1)
        else:
            runs.append((letter, 1))
    return runs


def _end_of_number(text, at):
    """The place of the first sign, from a place on, that is no digit."""
    while at < len(text) and text[at] in DIGITS:
        at += 1
    return at


def _run_told(letter, number):
    """The letters of a run; without a number it is one letter."""
    # Numbers end at 40; int itself would fail with thousands of digits.
    if letter not in LETTERS or len(number) > 2:
        raise BadRow("text")
    return letter * int(number or "1")
