import unittest

from railshut.closures import closure_count, is_closure, shortest_closure
from tests.model import all_rows, boxes_of, drawn, drawn_shut, is_in_box

ROWS = (
    "", "S", "LR", "LLLL", "LLLLLL", "LLLLLLL", "RRRRRRRR", "LLLLSLL", "LLLLSHLL", "RRRRSHSRR", "LLLLLLLLS",
    "LLLLLLSSRRRR", "LHLSLSHLLHL", "HLLLLHLL", "SLLLLLLS", "SLLLLLLSSLLLLLLSSLLLLLLSS", "LLLL" + "S" * 15 + "LLLL" + "S" * 14,
)

# The row, the box, the shortest closure, how many closures.
TOLD = (
    ("LLLLLLL", (0, 0, 3), "L", 1), ("LLLLSLL", (1, 0, 3), "LLS", 1), ("LLLLS", (3, 0, 3), None, 0),
    ("LLLLLL", (2, 0, 2), "LL", 1),
    # A row that shuts already.
    ("LLLLLLLL", (0, 0, 0), "", 1), ("LLLLLLLL", (1, 1, 1), "", 1), ("", (0, 0, 0), "", 1), ("", (2, 2, 2), "", 1),
    ("LLLLSLLLLS", (2, 2, 2), "", 1), ("LLLLLLSSRRRRRRSS", (0, 0, 6), "", 1),
    # A box without pieces.
    ("LLLLLLL", (0, 0, 0), None, 0), ("S", (0, 0, 0), None, 0),
    # Enough of one kind, and not of another.
    ("LLLLSLL", (3, 0, 1), None, 0), ("LLLLSLL", (0, 0, 6), None, 0), ("LLLLSLL", (0, 1, 2), None, 0),
    ("LLLLSLL", (0, 2, 2), "LLHH", 1), ("LLLLLL", (3, 3, 0), None, 0),
    # Several: the fewest pieces, and the first in order.
    ("LLLLSHLL", (1, 1, 2), "LLHS", 2), ("LLLLSHLL", (1, 3, 2), "LLHS", 3), ("LLLLSLL", (1, 2, 2), "LLS", 2),
    ("LLLLSSLL", (1, 2, 2), "LLHHS", 3), ("LLLLLLSSRRRR", (2, 0, 2), "RRSS", 1), ("HLLLLHLL", (0, 0, 2), "LL", 1),
    # Six pieces in all.
    ("LL", (0, 0, 6), "LLLLLL", 1), ("RR", (0, 0, 6), "RRRRRR", 1), ("LLLLSLL", (2, 2, 2), "LLS", 2),
    ("LLLLSSSLL", (2, 2, 2), "LLHHSS", 6), ("S", (2, 0, 4), None, 0), ("LLLLLLLLS", (2, 2, 2), None, 0),
)


class Told(unittest.TestCase):
    def test_shortest_closure(self):
        for row, box, expected, _ in TOLD:
            self.assertEqual(shortest_closure(row, box), expected, (row, box))

    def test_closure_count(self):
        for row, box, _, many in TOLD:
            self.assertEqual(closure_count(row, box), many, (row, box))

    def test_is_closure(self):
        for row, box, other, _ in TOLD:
            if other is not None:
                self.assertIs(is_closure(row, box, other), True, (row, box))
        for row, box, other in (
            ("LLLLSLL", (0, 0, 3), "LLS"), ("LLLLSLL", (1, 0, 1), "LLS"), ("LLLLSLL", (1, 0, 3), "LSL"),
            ("LLLLSLL", (1, 0, 3), "LL"), ("LLLLSLL", (1, 0, 3), "SLL"), ("LLLLSLL", (1, 0, 3), "RRS"),
            ("LLLLSLL", (1, 2, 2), "LLSH"), ("LLLLSLL", (3, 1, 2), "LLHH"), ("LLLLLLL", (0, 0, 0), "L"),
            ("LLLLLLL", (3, 3, 0), "L"), ("LLLLLLL", (0, 0, 3), "R"), ("LLLLLLL", (0, 0, 3), ""), ("S", (0, 0, 0), ""),
        ):
            self.assertIs(is_closure(row, box, other), False, (row, box, other))


class ByTrial(unittest.TestCase):
    """All rows are tried, whether they shut what they are put behind."""

    def closing(self, row, most):
        at, eighths = drawn(row)
        found = []
        for other in all_rows(most):
            there, turned = drawn(other, at, eighths)
            if abs(there) < 1e-6 and turned % 8 == 0:
                found.append(other)
        return found

    def compare(self, row, box, closing):
        told = [other for other in closing if is_in_box(other, box)]
        self.assertEqual(closure_count(row, box), len(told), (row, box))
        self.assertEqual(shortest_closure(row, box), told[0] if told else None, (row, box))
        for other in closing:
            self.assertIs(is_closure(row, box, other), other in told, (row, box, other))

    def test_boxes_with_up_to_4_pieces(self):
        for row in ROWS:
            closing = self.closing(row, 4)
            for many in range(5):
                for box in boxes_of(many):
                    self.compare(row, box, [other for other in closing if len(other) <= many])

    def test_boxes_with_6_pieces(self):
        for row in ("LL", "LLLLSHLL", "LLLLLLSSRRRR", "RRRRSHSRR", "LRLLLL", "LLLLSSSLL"):
            closing = self.closing(row, 6)
            for box in boxes_of(6):
                self.compare(row, box, closing)

    def test_is_closure_for_all_short_rows(self):
        for row in ("LLLLLL", "LLLLSLL", "RRRRHRR"):
            for other in all_rows(4):
                for box in ((1, 1, 2), (0, 2, 2), (2, 0, 1), (4, 4, 4)):
                    expected = is_in_box(other, box) and drawn_shut(row + other)
                    self.assertIs(is_closure(row, box, other), expected, (row, box, other))

    def test_a_row_with_a_closure_of_no_pieces_is_one_that_shuts(self):
        for row in ROWS:
            self.assertIs(is_closure(row, (0, 0, 0), ""), drawn_shut(row))
            self.assertEqual(shortest_closure(row, (1, 1, 1)) == "", drawn_shut(row))


class Arguments(unittest.TestCase):
    def test_no_function_changes_them(self):
        row, box, other = "LLLLSLL", (1, 0, 3), "LLS"
        for _ in range(2):
            self.assertEqual((is_closure(row, box, other), shortest_closure(row, box), closure_count(row, box)), (True, "LLS", 1))
        self.assertEqual((row, box, other), ("LLLLSLL", (1, 0, 3), "LLS"))
