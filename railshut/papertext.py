"""Texts of papers about routes (h4, h5)."""

from railshut.errors import BadTrain
from railshut.numerals import read_numbers

# For each word of a line, the least and the greatest of each number behind it.
LIMITS = {
    "route": ((0, 23), (0, 3), (0, 3)),
    "number": ((0, 23), (0, 3), (0, 3), (1, 9999)),
    "train": ((0, 23), (0, 3), (0, 3)),
}


def paper_text(paper):
    """The text of a paper, without a newline at the end."""
    if paper[0] == "never":
        lines = [_line("train", train) for train in paper[1]]
    else:
        lines = [_line("route", train) for train in paper[1]]
        lines.extend([_line("number", train + (number,)) for train, number in paper[2]])
    return "\n".join([paper[0]] + lines)


def parse_paper(text):
    """The paper of a text; BadTrain with "line N" for the first line that is wrong."""
    lines = text.split("\n")
    if lines[0] == "never":
        return ("never", tuple(_read_lines(lines, 1, "train")))
    if lines[0] != "least":
        raise BadTrain("line 1")
    routes = 0
    while _starts_route(lines, 1 + routes):
        routes += 1
    route = _read_lines(lines[:1 + routes], 1, "route")
    pairs = _read_lines(lines, 1 + routes, "number")
    if not route:
        raise BadTrain(f"line {len(lines) + 1}")
    return ("least", tuple(route), tuple([(numbers[:3], numbers[3]) for numbers in pairs]))


def _line(word, numbers):
    return " ".join([word] + [str(number) for number in numbers])


def _starts_route(lines, at):
    return at < len(lines) and lines[at].startswith("route ")


def _read_lines(lines, first, word):
    """The numbers of the lines from the first one on, all of which have to have the word ahead."""
    read = []
    for at in range(first, len(lines)):
        parts = lines[at].split(" ")
        numbers = read_numbers(parts[1:], LIMITS[word])
        if parts[0] != word or numbers is None:
            raise BadTrain(f"line {at + 1}")
        read.append(numbers)
    return read
