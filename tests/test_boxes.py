import unittest

from railshut.boxes import holds, loops_of, shut_count
from tests.model import all_rows, boxes_of, forms, is_in_box, shut_rows_by_trial

ALL_LOOPS = ("LLLLLLLL", "HLLLLHLLLL", "LLLLSLLLLS")


class Holds(unittest.TestCase):
    def test_enough_pieces(self):
        for box, row in (
            ((0, 0, 0), ""), ((3, 4, 5), ""), ((1, 0, 0), "S"), ((0, 1, 0), "H"), ((0, 0, 1), "L"), ((0, 0, 1), "R"),
            ((0, 0, 2), "LR"), ((1, 2, 4), "LHRSLHR"), ((20, 20, 20), "SHLR" * 5), ((20, 0, 20), "S" * 20 + "LR" * 10),
        ):
            self.assertIs(holds(box, row), True, (box, row))

    def test_too_few_of_each_kind(self):
        for box, row in (
            ((0, 20, 20), "S"), ((20, 0, 20), "H"), ((20, 20, 0), "L"), ((20, 20, 0), "R"), ((0, 2, 4), "LHRSLHR"),
            ((1, 1, 4), "LHRSLHR"), ((1, 2, 3), "LHRSLHR"), ((20, 20, 20), "S" * 21), ((20, 20, 20), "H" * 21),
            ((0, 0, 0), "S"), ((0, 2, 0), "S"), ((1, 0, 0), "HH"),
        ):
            self.assertIs(holds(box, row), False, (box, row))

    def test_left_and_right_are_curves_together(self):
        self.assertIs(holds((0, 0, 3), "LRL"), True)
        self.assertIs(holds((0, 0, 3), "LRLR"), False)
        self.assertIs(holds((0, 0, 2), "LLR"), False)
        self.assertIs(holds((0, 0, 2), "RRL"), False)
        self.assertIs(holds((20, 20, 20), "L" * 11 + "R" * 10), False)

    def test_all_short_rows(self):
        for box in boxes_of(2) + boxes_of(3) + [(0, 0, 0), (2, 2, 2)]:
            for row in all_rows(4):
                self.assertIs(holds(box, row), is_in_box(row, box), (box, row))


class LoopsOf(unittest.TestCase):
    def by_trial(self, box, most):
        words = {min(forms(row)) for row in shut_rows_by_trial() if 1 <= len(row) <= most}
        return tuple(sorted((word for word in words if is_in_box(word, box)), key=lambda word: (len(word), word)))

    def test_beside_a_trial_of_all_short_rows(self):
        boxes = [(s, h, c) for s in (0, 1, 2, 3) for h in (0, 1, 2, 5) for c in (0, 7, 8, 9, 10)]
        for box in boxes:
            self.assertEqual(loops_of(box, 10), self.by_trial(box, 10), box)

    def test_up_to_each_number_of_pieces(self):
        for most in range(11):
            for box in ((20, 20, 20), (2, 0, 8), (0, 2, 8)):
                self.assertEqual(loops_of(box, most), self.by_trial(box, most), (box, most))

    def test_told_ones(self):
        for box, most, expected in (
            ((20, 20, 20), 10, ALL_LOOPS), ((20, 20, 20), 0, ()), ((20, 20, 20), 7, ()), ((20, 20, 20), 8, ALL_LOOPS[:1]),
            ((20, 20, 20), 9, ALL_LOOPS[:1]), ((0, 0, 0), 10, ()), ((0, 0, 0), 0, ()), ((0, 0, 8), 10, ALL_LOOPS[:1]),
            ((2, 2, 7), 10, ()), ((1, 1, 8), 10, ALL_LOOPS[:1]), ((2, 1, 8), 10, ("LLLLLLLL", "LLLLSLLLLS")),
            ((1, 2, 8), 10, ALL_LOOPS[:2]), ((2, 2, 8), 10, ALL_LOOPS), ((20, 20, 0), 10, ()),
        ):
            self.assertEqual(loops_of(box, most), expected, (box, most))

    def test_each_loop_once_and_none_without_pieces(self):
        words = loops_of((20, 20, 20), 10)
        self.assertIs(type(words), tuple)
        self.assertEqual(len(words), len(set(words)))
        self.assertNotIn("", words)


class ShutCount(unittest.TestCase):
    def test_told_ones(self):
        self.assertEqual([shut_count(many) for many in range(11)], [1, 0, 0, 0, 0, 0, 0, 0, 2, 0, 20])

    def test_beside_a_trial_of_all_short_rows(self):
        for many in range(11):
            self.assertEqual(shut_count(many), len([row for row in shut_rows_by_trial() if len(row) == many]))


class Arguments(unittest.TestCase):
    def test_no_function_changes_them(self):
        box, row = (2, 0, 8), "LLS"
        for _ in range(2):
            self.assertEqual((holds(box, row), loops_of(box, 10)), (True, ("LLLLLLLL", "LLLLSLLLLS")))
        self.assertEqual((box, row), ((2, 0, 8), "LLS"))
