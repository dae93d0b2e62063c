import itertools
import unittest

from railshut.errors import BadTrain
from railshut.papertext import paper_text, parse_paper
from railshut.routes import make_paper
from tests.test_routes import SMALL
from tests.tracks import some_pairs

TEXTS = (
    ("never", ("never", ())),
    ("never\ntrain 3 1 0", ("never", ((3, 1, 0),))),
    ("never\ntrain 3 1 0\ntrain 0 0 1\ntrain 3 1 0", ("never", ((3, 1, 0), (0, 0, 1), (3, 1, 0)))),
    ("least\nroute 0 0 1", ("least", ((0, 0, 1),), ())),
    ("least\nroute 0 0 1\nroute 1 0 1\nnumber 0 0 1 1", ("least", ((0, 0, 1), (1, 0, 1)), (((0, 0, 1), 1),))),
    ("least\nroute 23 3 2\nnumber 22 2 0 9999\nnumber 10 1 0 10\nnumber 10 1 0 10",
     ("least", ((23, 3, 2),), (((22, 2, 0), 9999), ((10, 1, 0), 10), ((10, 1, 0), 10)))),
    # No such trains, no such steps: neither is looked at.
    ("least\nroute 0 0 0\nroute 0 3 3\nroute 9 1 2", ("least", ((0, 0, 0), (0, 3, 3), (9, 1, 2)), ())),
    ("never\ntrain 20 3 3", ("never", ((20, 3, 3),))),
)

# Other writings of "WORD 7 1 0" that are none.
WRONG_TRAINS = (
    "WORD", "WORD ", "WORD 7", "WORD 7 1", "WORD 7 1 ", "WORD 07 1 0", "WORD 7 01 0", "WORD 7 1 00", "WORD  7 1 0", "WORD 7  1 0", "WORD 7 1  0",
    "WORD 7 1 0 ", " WORD 7 1 0", "WORD\t7 1 0", "WORD 7\t1 0", "WORD 7,1,0", "WORD 7 1 0\t", "WORD 7 1 0\r", "WORD 24 1 0", "WORD 7 4 0", "WORD 7 1 4",
    "WORD 100 1 0", "WORD -1 1 0", "WORD 7 -1 0", "WORD 7 1 -1", "WORD 7 1 -0", "WORD -0 1 0", "WORD +7 1 0", "WORD 7 1 +0", "WORD 7 1.0 0", "WORD 7 1 x", "WORD x 1 0",
    "WORD 0x7 1 0", "WORD 7 1_0 0", "WORD \u0667 1 0", "WORD \u00b2 1 0", "WORD 7 \uff11 0", "WORD7 1 0", "7 1 0", "", " ", "WORDs 7 1 0", "WORD:7 1 0",
    "WORD " + "9" * 5000 + " 1 0", "WORD 7 1 0;", "WORD (7, 1, 0)", "WORD 7 1 None", "WORD\u00a07 1 0", "WORD 7 1 0\u0000",
)

WRONG_NUMBERS = (
    "number 7 1 0", "number 7 1 0 ", "number 7 1 0 0", "number 7 1 0 00", "number 7 1 0 01", "number 7 1 0 -1", "number 7 1 0 +1", "number 7 1 0 10000",
    "number 7 1 0 99999", "number 7 1 0 9,999", "number 7 1 0 1.0", "number 7 1 0  1", "number 7 1 0 1 ", "number 7 1 0 1 1", "number 24 1 0 1",
    "number 7 4 0 1", "number 7 1 4 1", "number 07 1 0 1", "number 7 1 0 " + "1" * 5000, "number 7 1 0 \u0661", "number 7 1 0 0001", "Number 7 1 0 1",
)


class Case(unittest.TestCase):
    def refuse(self, text, line):
        with self.assertRaises(BadTrain, msg=text[:80]) as raised:
            parse_paper(text)
        self.assertEqual(raised.exception.reason, f"line {line}", text[:80])


class ThereAndBack(Case):
    def test_told_ones(self):
        for text, paper in TEXTS:
            self.assertEqual((paper_text(paper), parse_paper(text)), (text, paper))

    def test_made_papers(self):
        for layout in SMALL:
            for train, goal in some_pairs(layout, 30):
                paper = make_paper(layout, train, goal)
                text = paper_text(paper)
                self.assertEqual(parse_paper(text), paper)
                self.assertFalse(text.endswith("\n"))
                words = ["never"] + ["train"] * len(paper[1])
                if paper[0] == "least":
                    words = ["least"] + ["route"] * len(paper[1]) + ["number"] * len(paper[2])
                self.assertEqual([line.split()[0] for line in text.split("\n")], words)

    def test_every_number(self):
        for piece, entry, leaving in itertools.product(range(24), range(4), range(4)):
            for paper in (("never", ((piece, entry, leaving),)), ("least", ((piece, entry, leaving),), (((piece, entry, leaving), 1),))):
                self.assertEqual(parse_paper(paper_text(paper)), paper)
        paper = ("least", ((0, 0, 1),), tuple(((1, 0, 1), number) for number in range(1, 10000)))
        self.assertEqual(parse_paper(paper_text(paper)), paper)


class Refused(Case):
    def test_first_lines(self):
        for first in (
            "", " ", "Least", "LEAST", "least ", " least", "never ", "Never", "most", "leas", "leastnever", "least never", "route 0 0 1", "train 0 0 1",
            "least\r", "never\t", "\u00a0least", "least,", "0",
        ):
            for rest in ("", "\n", "\nroute 0 0 1", "\ntrain 0 0 1", "\nleast\nroute 0 0 1"):
                self.refuse(first + rest, 1)
        self.refuse("\nleast\nroute 0 0 1", 1)

    def test_wrong_lines_behind_never(self):
        for line in WRONG_TRAINS:
            line = line.replace("WORD", "train")
            self.refuse("never\n" + line, 2)
            self.refuse("never\ntrain 0 0 1\ntrain 23 3 3\n" + line, 4)
            self.refuse("never\ntrain 0 0 1\n" + line + "\ntrain 24 0 1\nroute", 3)
        for line in ("route 0 0 1", "number 0 0 1 1", "never", "least", "train 0 0 1 1", "Train 0 0 1"):
            self.refuse("never\n" + line, 2)
            self.refuse("never\ntrain 0 0 1\n" + line, 3)

    def test_wrong_route_lines(self):
        for line in WRONG_TRAINS:
            line = line.replace("WORD", "route")
            self.refuse("least\n" + line, 2)
            self.refuse("least\nroute 0 0 1\nroute 23 3 3\n" + line, 4)
            self.refuse("least\nroute 0 0 1\n" + line + "\nroute 24 0 1\nnumber", 3)
            self.refuse("least\n" + line + "\nroute 0 0 1\nnumber 0 0 1 1", 2)
        for line in ("train 0 0 1", "least", "never", "route 0 0 1 1", "Route 0 0 1", "routes 0 0 1"):
            self.refuse("least\n" + line, 2)
            self.refuse("least\nroute 0 0 1\n" + line, 3)

    def test_wrong_number_lines(self):
        for line in WRONG_NUMBERS + tuple(line.replace("WORD", "number") + " 1" for line in WRONG_TRAINS if line.count(" ") != 2 or "WORD" not in line):
            self.refuse("least\nroute 0 0 1\n" + line, 3)
            self.refuse("least\nroute 0 0 1\nroute 1 0 1\nnumber 0 0 1 1\n" + line, 5)
            self.refuse("least\nroute 0 0 1\n" + line + "\nnumber 0 0 1 1\nroute", 3)

    def test_a_route_line_behind_a_number_line(self):
        self.refuse("least\nroute 0 0 1\nnumber 0 0 1 1\nroute 1 0 1", 4)
        self.refuse("least\nroute 0 0 1\nnumber 0 0 1 1\nnumber 1 0 1 1\nroute 1 0 1\nnumber", 5)
        self.refuse("least\nnumber 0 0 1 1\nroute 0 0 1", 3)

    def test_least_without_a_route_line(self):
        self.refuse("least", 2)
        self.refuse("least\nnumber 0 0 1 1", 3)
        self.refuse("least\nnumber 0 0 1 1\nnumber 1 0 1 1\nnumber 2 0 1 9999", 5)
        # A line that is wrong comes first.
        self.refuse("least\nnumber 0 0 1 0", 2)
        self.refuse("least\nnumber 0 0 1 1\nnumber 0 0 1 10000\nnumber 0 0 1 1", 3)

    def test_empty_lines_and_a_newline_at_the_end(self):
        for text, _ in TEXTS:
            self.refuse(text + "\n", text.count("\n") + 2)
            self.refuse(text + "\n\n", text.count("\n") + 2)
            self.refuse("\n" + text, 1)
            self.refuse(text.replace("\n", "\n\n", 1) if "\n" in text else text + "\n", 2)
            if "\n" in text:
                self.refuse(text.replace("\n", "\r\n"), 1)
                self.refuse(text.replace("\n", "\r"), 1)
        self.refuse("", 1)
        self.refuse("\n", 1)

    def test_the_first_wrong_line_is_told(self):
        self.refuse("least\nroute 0 0 1\nroute 0 0 9\nnumber 0 0 1 0\ntrain", 3)
        self.refuse("never\ntrain 0 0 1\ntrain 0 0 01\ntrain 99 0 1", 3)
        self.refuse("never\nroute 0 0 1\ntrain 99 0 1", 2)


class Arguments(unittest.TestCase):
    def test_no_function_changes_them(self):
        for text, paper in TEXTS:
            for _ in range(2):
                self.assertEqual((paper_text(paper), parse_paper(text)), (text, paper))
            self.assertIs(type(parse_paper(text)), tuple)
