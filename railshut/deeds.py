"""Journals of deeds: how their lines are written, and done again (d1, j1)."""

from railshut.errors import BadJournal, RailError


def line_of(words):
    """The line of a deed."""
    return " ".join([str(word) for word in words]) + "\n"


def do_again(subject, text, do):
    """Lets the subject do what each whole line tells; BadJournal for the first one that is none, or refused."""
    # What stands behind the last newline is no whole line, whatever it is.
    for place, line in enumerate(text.split("\n")[:-1], start=1):
        if not _is_done(subject, line.split(" "), do):
            raise BadJournal(place)


def _is_done(subject, words, do):
    try:
        return do(subject, words)
    except RailError:
        return False
