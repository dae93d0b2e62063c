import itertools
import random
import unittest

from railshut.samelayouts import are_same, word
from tests.floors import (
    ELSEWHERE, all_ends, along, facing, from_other_ends, piece_ends, piece_words, put_elsewhere, seen_by_steps, some_layouts,
)
from tests.model import HOME, SHUT_ROWS

RINGS = tuple(along(HOME, row[:24]) for row in SHUT_ROWS if len(row) <= 24 and row not in ("L" * 16, "L" * 24))
SOME = tuple(some_layouts(25, seed=3, deeds=8)) + RINGS[:4] + tuple(((kind, HOME),) for kind in "SHCPQX")

# Layouts with equal numbers of pieces of each kind, no two of which are the same.
UNLIKE = (
    (
        along(HOME, "LLSS"), along(HOME, "LSLS"), along(HOME, "LSSL"), along(HOME, "RRSS"), along(HOME, "LRSS"), along(HOME, "LSRS"),
        along(HOME, "LLS") + along((50, 0, 0, 0, 0), "S"), along(HOME, "LLS") + along((50, 0, 0, 0, 1), "S"),
    ),
    ((("P", HOME),), (("Q", HOME),), (("C", HOME),), (("S", HOME),), (("H", HOME),), (("X", HOME),)),
    (
        (("P", HOME), ("S", (2, 0, 0, 0, 0))), (("P", HOME), ("S", (0, 0, 2, -2, 1))), (("P", HOME), ("S", (-2, 0, 0, 0, 0))),
        (("Q", HOME), ("S", (2, 0, 0, 0, 0))), (("Q", HOME), ("S", (0, 2, -2, 0, 7))), (("Q", HOME), ("S", (-2, 0, 0, 0, 0))),
    ),
    ((("X", HOME), ("C", (2, 0, 0, 0, 0))), (("X", HOME), ("C", (0, 0, 0, 0, 1))), (("X", HOME), ("C", (2, 0, 0, 0, 1)))),
    (
        (("S", HOME), ("S", (0, 0, 3, 0, 0))), (("S", HOME), ("S", (0, 0, 4, 0, 0))), (("S", HOME), ("S", (0, 0, 3, 0, 1))),
        (("S", HOME), ("S", (0, 3, 0, 0, 0))), (("S", HOME), ("S", (0, 0, 0, 3, 0))),
    ),
)


def word_by_steps(layout):
    """The word, with each end of the layout taken for home and each end of each piece seen from there."""
    words = []
    for _, _, home in all_ends(layout):
        frame = facing(home)
        told = []
        for piece in layout:
            if piece is not None:
                told.append((piece[0], tuple(sorted(seen_by_steps(frame, end) for end in piece_ends(*piece)))))
        words.append(tuple(sorted(told)))
    return min(words) if words else ()


def same_by_trial(layout, other):
    """Whether some motion takes one to the other: each that takes one end of the first to some end of the second is tried."""
    here, there = piece_words(layout), piece_words(other)
    if not here or not there:
        return here == there
    _, _, first = all_ends(layout)[0]
    at_home = put_elsewhere(layout, seen_by_steps(first, HOME))
    return any(piece_words(put_elsewhere(at_home, pose)) == there for _, _, pose in all_ends(other))


def other_numbers(layout, seed):
    """The same pieces with other numbers, and with gaps."""
    pieces = list(layout) + [None, None]
    random.Random(seed).shuffle(pieces)
    return tuple(pieces)


class Word(unittest.TestCase):
    def test_told_ones(self):
        for layout, expected in (
            ((), ()), ((None, None), ()),
            ((("S", (5, 4, 3, 2, 1)),), (("S", ((0, 0, 0, 0, 4), (2, 0, 0, 0, 0))),)),
            ((("H", HOME),), (("H", ((0, 0, 0, 0, 4), (1, 0, 0, 0, 0))),)),
            ((("C", (1, 0, 0, 0, 3)),), (("C", ((0, 0, 0, 0, 4), (0, 0, 2, -2, 1))),)),
            ((("P", (0, 7, 0, 0, 2)),), (("P", ((0, 0, 0, 0, 4), (0, 0, 2, -2, 1), (2, 0, 0, 0, 0))),)),
            # With the end of its branch for home this is the least.
            ((("Q", HOME),), (("Q", ((0, -2, 2, -2, 5), (0, 0, 0, 0, 4), (0, 0, 2, -2, 1))),)),
            ((("X", HOME),), (("X", ((0, 0, 0, 0, 4), (1, 0, -1, 0, 6), (1, 0, 1, 0, 2), (2, 0, 0, 0, 0))),)),
            # With the end of the straight at the joint for home this is the least.
            ((("H", HOME), None, ("S", (1, 0, 0, 0, 0))),
             (("H", ((-1, 0, 0, 0, 4), (0, 0, 0, 0, 0))), ("S", ((0, 0, 0, 0, 4), (2, 0, 0, 0, 0))))),
        ):
            self.assertEqual(word(layout), expected)

    def test_beside_the_ends_taken_one_by_one(self):
        for layout in SOME + RINGS:
            self.assertEqual(word(layout), word_by_steps(layout))

    def test_kinds_and_ends(self):
        for layout in SOME:
            told = word(layout)
            self.assertEqual(sorted(kind for kind, _ in told), sorted(piece[0] for piece in layout if piece))
            self.assertEqual(tuple(sorted(told)), told)
            for _, ends in told:
                self.assertEqual(tuple(sorted(ends)), ends)


class Same(unittest.TestCase):
    def test_all_turns_and_moves(self):
        for layout in SOME:
            for position, heading in itertools.product(ELSEWHERE, range(8)):
                moved = put_elsewhere(layout, position[:4] + (heading,))
                self.assertIs(are_same(layout, moved), True)
            self.assertEqual(word(layout), word(moved))

    def test_other_numbers_and_gaps(self):
        for layout in SOME:
            for seed in range(4):
                other = put_elsewhere(other_numbers(layout, seed), ELSEWHERE[seed])
                self.assertIs(are_same(layout, other), True)
                self.assertEqual(word(layout), word(other))

    def test_straights_half_straights_and_crossings_from_another_end(self):
        for layout in SOME:
            for by in range(4):
                other = put_elsewhere(other_numbers(from_other_ends(layout, by), by), (3, 1, 4, 1, 5))
                self.assertIs(are_same(layout, other), True)
                self.assertEqual(word(layout), word(other))

    def test_a_row_laid_from_its_other_end(self):
        for row in ("S", "LLS", "LSRH", "SRRSRRSRRSRR"):
            backwards = row[::-1].translate(str.maketrans("LR", "RL"))
            self.assertIs(are_same(along(HOME, row), along(ELSEWHERE[2], backwards)), True)

    def test_rings_begun_elsewhere(self):
        for row in ("LLLLSLLLLS", "LHLSLSHLLHLSLSHL", "LLLLLLLL"):
            for at in range(len(row)):
                self.assertIs(are_same(along(HOME, row), along(ELSEWHERE[1], row[at:] + row[:at])), True)

    def test_unlike_layouts_with_equal_numbers_of_pieces(self):
        for layouts in UNLIKE:
            for one, other in itertools.product(range(len(layouts)), repeat=2):
                with self.subTest(one=layouts[one], other=layouts[other]):
                    self.assertIs(are_same(layouts[one], layouts[other]), one == other)
                    self.assertIs(are_same(layouts[one], put_elsewhere(layouts[other], ELSEWHERE[3])), one == other)
                    self.assertEqual(word(layouts[one]) == word(layouts[other]), one == other)

    def test_mirrored_layouts_are_not_the_same(self):
        for row in ("L", "LLS", "LSRH", "LLSSLS"):
            mirrored = row.translate(str.maketrans("LR", "RL"))
            same = mirrored in (row, row[::-1].translate(str.maketrans("LR", "RL")))
            self.assertIs(are_same(along(HOME, row), along(HOME, mirrored)), same, row)
        self.assertIs(are_same((("C", HOME),), (("C", (0, 2, -2, 0, 3)),)), True)

    def test_beside_a_trial_of_the_motions(self):
        small = some_layouts(40, seed=5, deeds=2) + [(("S", HOME),), (("H", HOME),), (("C", HOME),), ()]
        for one, other in itertools.product(small, repeat=2):
            self.assertIs(are_same(one, other), same_by_trial(one, other), (one, other))

    def test_layouts_without_pieces(self):
        for one, other in itertools.product(((), (None,), (None, None, None)), repeat=2):
            self.assertEqual((word(one), are_same(one, other)), ((), True))
        self.assertIs(are_same((), (("S", HOME),)), False)
        self.assertIs(are_same((("S", HOME), None), (None,)), False)

    def test_a_piece_more(self):
        for layout in RINGS[:4]:
            self.assertIs(are_same(layout, layout[:-1]), False)
            self.assertIs(are_same(layout, layout[:-1] + (None,)), False)


class Arguments(unittest.TestCase):
    def test_no_function_changes_them(self):
        layout, other = (("S", HOME), None, ("X", (7, 0, 0, 0, 3))), (("H", HOME),)
        for _ in range(2):
            self.assertEqual((are_same(layout, other), type(word(layout))), (False, tuple))
        self.assertEqual((layout, other), ((("S", HOME), None, ("X", (7, 0, 0, 0, 3))), (("H", HOME),)))
