import itertools
import unittest

from railshut.errors import BadPiece
from railshut.joinings import is_joining, shortest_joining
from tests.floors import (
    BALLOONS, ELSEWHERE, all_ends, along, facing, in_box, joining_rows, joints, put_elsewhere, some_layouts, why_not,
)
from tests.model import HOME, all_rows, boxes_of, lead_by_steps

FAR = (900, 0, 0, 0, 0)


def gap(row, far="S"):
    """Two straights with a gap between them for a row; the ends (0, 1) and (1, 0) lie there."""
    return along((-2, 0, 0, 0, 0), "S") + along(lead_by_steps(HOME, row), far)


# A layout, two of its ends, all rows of at most 5 letters that join them, shortest ones ahead.
TOLD = (
    (along(HOME, "LLLLSLL"), (6, 1), (0, 0), ("LLS", "LLHH")),
    (along(HOME, "LLLLSLL"), (0, 0), (6, 1), ("SRR", "HHRR")),
    (along(HOME, "LLLLLLL"), (6, 1), (0, 0), ("L",)),
    (gap("S"), (0, 1), (1, 0), ("S", "HH")),
    (gap("SS"), (0, 1), (1, 0), ("SS", "HHS", "HSH", "SHH", "HHHH")),
    (gap("SSH"), (0, 1), (1, 0), ("HSS", "SHS", "SSH", "HHHS", "HHSH", "HSHH", "SHHH", "HHHHH")),
    (gap("LR"), (0, 1), (1, 0), ("LR",)),
    (gap("LSR"), (0, 1), (1, 0), ("LSR", "LHHR")),
    (gap("SLRS"), (0, 1), (1, 0), None),
    # A piece lies there already: one has an end where two straights would meet, the other one only lies across.
    (gap("SS") + (("C", (2, 0, 0, 0, 4)),), (0, 1), (1, 0), ("HSH",)),
    (gap("S") + (("S", (1, 0, -1, 0, 2)),), (0, 1), (1, 0), ("S", "HH")),
    # The two ends of one piece that is bent; no row is short enough.
    ((("C", HOME),), (0, 0), (0, 1), ()),
    # An end and itself: the row would have to come back facing round.
    ((("S", HOME),), (0, 1), (0, 1), ()),
    # Numbers: with 24 that are used nothing can be laid.
    (gap("S") + (None,) * 22, (0, 1), (1, 0), ()),
    (gap("S") + (None,) * 21, (0, 1), (1, 0), ("S",)),
    (gap("SS") + (None,) * 20, (0, 1), (1, 0), ("SS",)),
    (gap("SS") + (None,) * 19, (0, 1), (1, 0), ("SS", "HHS", "HSH", "SHH")),
)


class Told(unittest.TestCase):
    def test_shortest_and_all(self):
        for layout, first, second, expected in TOLD:
            rows = tuple(joining_rows(layout, first, second, 5))
            if expected is not None:
                self.assertEqual(rows, expected, layout)
            for row in all_rows(4):
                self.assertIs(is_joining(layout, first, second, (5, 5, 5), row), row in rows, (layout, row))
            for many in range(6):
                for box in boxes_of(many):
                    self.compare(layout, first, second, box, in_box(rows, box))

    def compare(self, layout, first, second, box, rows):
        """The shortest joining, and each row, beside all rows out of the box that join."""
        told = (layout, first, second, box)
        self.assertEqual(shortest_joining(*told), rows[0] if rows else None, told)
        for row in rows[:8]:
            self.assertIs(is_joining(*told, row), True, (told, row))
            backwards = row[::-1].translate(str.maketrans("LR", "RL"))
            self.assertIs(is_joining(layout, second, first, box, backwards), True, (told, row))

    def test_a_piece_on_the_way(self):
        layout = gap("SS") + (("C", (2, 0, 0, 0, 4)),)
        self.assertEqual(why_not(layout, along(HOME, "SS")), "ends overlap")
        self.assertEqual(shortest_joining(layout, (0, 1), (1, 0), (2, 2, 0)), "HSH")
        for row, expected in (("SS", False), ("HSH", True), ("HHS", False), ("SHH", False), ("HHHH", False)):
            self.assertIs(is_joining(layout, (0, 1), (1, 0), (4, 4, 0), row), expected, row)
        self.assertIsNone(shortest_joining(layout, (0, 1), (1, 0), (2, 1, 2)))

    def test_several_shortest_ones(self):
        layout = gap("SSH")
        self.assertEqual(shortest_joining(layout, (0, 1), (1, 0), (2, 1, 0)), "HSS")
        self.assertEqual(shortest_joining(layout, (0, 1), (1, 0), (1, 3, 0)), "HHHS")
        self.assertEqual(shortest_joining(gap("LRRL"), (0, 1), (1, 0), (0, 0, 4)), "LRRL")
        self.assertEqual(shortest_joining(gap("RLSLR"), (0, 1), (1, 0), (1, 0, 4)), joining_rows(gap("RLSLR"), (0, 1), (1, 0), 5)[0])

    def test_boxes_without_pieces_and_rows_without_pieces(self):
        for layout, first, second, _ in TOLD:
            self.assertIsNone(shortest_joining(layout, first, second, (0, 0, 0)))
            self.assertIs(is_joining(layout, first, second, (0, 0, 0), ""), False)
            self.assertIs(is_joining(layout, first, second, (2, 2, 1), ""), False)

    def test_too_few_pieces(self):
        layout = gap("LSR")
        for box, row in (((0, 5, 5), "LSR"), ((1, 0, 1), "LSR"), ((1, 0, 2), "LHHR"), ((1, 1, 2), "LHHR"), ((0, 2, 1), "LHHR")):
            self.assertIs(is_joining(layout, (0, 1), (1, 0), box, row), False, (box, row))
        self.assertIs(is_joining(layout, (0, 1), (1, 0), (1, 0, 2), "LSR"), True)
        self.assertIs(is_joining(layout, (0, 1), (1, 0), (0, 2, 2), "LHHR"), True)

    def test_a_row_that_leads_there_the_wrong_way(self):
        for row in ("L", "R", "SS", "H", "HHH", "LRS"):
            self.assertIs(is_joining(gap("S"), (0, 1), (1, 0), (5, 5, 5), row), False)
        # Both ends face the same way.
        layout = (("S", (-2, 0, 0, 0, 0)), ("S", (0, 0, 0, 0, 0)))
        self.assertIs(is_joining(layout, (0, 0), (1, 1), (5, 5, 5), "S"), False)
        self.assertIs(is_joining(gap("S"), (0, 0), (1, 0), (5, 5, 5), "S"), False)

    def test_an_end_and_itself(self):
        for row in BALLOONS:
            self.assertEqual(lead_by_steps((2, 0, 0, 0, 0), row), facing((2, 0, 0, 0, 0)))
            self.assertIs(is_joining((("S", HOME),), (0, 1), (0, 1), (9, 9, 9), row), False)


class ByTrial(unittest.TestCase):
    def test_all_pairs_of_open_ends_of_some_layouts(self):
        boxes = [(2, 0, 3), (1, 2, 2), (0, 0, 4), (3, 1, 1)]
        for layout in some_layouts(12, seed=21, deeds=3) + [along(HOME, "LLSLL"), along(HOME, "SRRS")]:
            joined = joints(layout)
            ends = [(number, end) for number, end, _ in all_ends(layout) if (number, end) not in joined][:4]
            for first, second in itertools.product(ends, repeat=2):
                rows = joining_rows(layout, first, second, 4)
                for box in boxes:
                    expected = [row for row in in_box(rows, box) if len(row) <= 4]
                    told = shortest_joining(layout, first, second, box)
                    if expected:
                        self.assertEqual(told, expected[0], (layout, first, second, box))
                    else:
                        self.assertTrue(told is None or len(told) == 5, (layout, first, second, box, told))

    def test_backwards_it_joins_the_second_with_the_first(self):
        for layout in (along(HOME, "LLLLSL"), gap("SSH"), gap("LSR"), gap("LS", "H") + (("C", (2, 0, 0, 0, 4)),)):
            joined = joints(layout)
            ends = [(number, end) for number, end, _ in all_ends(layout) if (number, end) not in joined]
            for (first, second), row in itertools.product(itertools.permutations(ends, 2), all_rows(3)):
                backwards = row[::-1].translate(str.maketrans("LR", "RL"))
                self.assertIs(
                    is_joining(layout, first, second, (3, 3, 3), row), is_joining(layout, second, first, (3, 3, 3), backwards)
                )

    def test_elsewhere(self):
        for layout, first, second, expected in TOLD[:9]:
            for pose in ELSEWHERE:
                told = shortest_joining(put_elsewhere(layout, pose), first, second, (2, 1, 2))
                self.assertEqual(told, shortest_joining(layout, first, second, (2, 1, 2)))


class Refused(unittest.TestCase):
    LAYOUT = along(HOME, "SS") + (None,) + (("P", FAR),)

    def refuse(self, reason, first, second):
        with self.assertRaises(BadPiece, msg=(first, second)) as raised:
            shortest_joining(self.LAYOUT, first, second, (1, 1, 1))
        self.assertEqual(raised.exception.reason, reason, (first, second))
        for row in ("", "S"):
            with self.assertRaises(BadPiece, msg=(first, second)) as raised:
                is_joining(self.LAYOUT, first, second, (1, 1, 1), row)
            self.assertEqual(raised.exception.reason, reason, (first, second))

    def test_no_such_end(self):
        for wrong in ((0, 2), (0, -1), (2, 0), (4, 0), (-1, 0), (-1, 1), (3, 3), (99, 0)):
            self.refuse("no such end", wrong, (0, 0))
            self.refuse("no such end", (0, 0), wrong)
            self.refuse("no such end", wrong, wrong)

    def test_joined(self):
        for wrong in ((0, 1), (1, 0)):
            self.refuse("joined", wrong, (0, 0))
            self.refuse("joined", (3, 2), wrong)
        self.refuse("joined", (0, 1), (1, 0))

    def test_no_such_end_is_told_ahead_of_joined(self):
        for wrong in ((2, 0), (0, 7), (-1, 0)):
            self.refuse("no such end", (0, 1), wrong)
            self.refuse("no such end", wrong, (0, 1))

    def test_open_ends_are_taken(self):
        for first, second in itertools.permutations(((0, 0), (1, 1), (3, 0), (3, 1), (3, 2)), 2):
            self.assertIsNone(shortest_joining(self.LAYOUT, first, second, (1, 1, 1)))

    def test_nothing_on_the_floor(self):
        for layout in ((), (None,)):
            with self.assertRaises(BadPiece) as raised:
                shortest_joining(layout, (0, 0), (0, 1), (1, 1, 1))
            self.assertEqual(raised.exception.reason, "no such end")


class Arguments(unittest.TestCase):
    def test_no_function_changes_them(self):
        layout, first, second, box = along(HOME, "LLLLSLL") + (None,), (6, 1), (0, 0), (1, 0, 3)
        for _ in range(2):
            self.assertEqual(shortest_joining(layout, first, second, box), "LLS")
            self.assertIs(is_joining(layout, first, second, box, "LLS"), True)
        self.assertEqual((layout, first, second, box), (along(HOME, "LLLLSLL") + (None,), (6, 1), (0, 0), (1, 0, 3)))
