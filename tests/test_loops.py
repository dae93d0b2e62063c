import itertools
import unittest

from railshut.errors import BadRow
from railshut.loops import least_word, same_loop, symmetry
from tests.model import OPEN_ROWS, SHUT_ROWS, forms, shut_rows_by_trial

# A row, its least word and its symmetry.
TOLD = (
    ("LLLLLLLL", "LLLLLLLL", 16), ("RRRRRRRR", "LLLLLLLL", 16), ("SLLLLSLLLL", "LLLLSLLLLS", 4),
    ("RRHRRRRHRR", "HLLLLHLLLL", 4), ("LLLLSLLLLHH", "HHLLLLSLLLL", 2), ("RRSRRSRRSRRS", "LLSLLSLLSLLS", 8),
    ("SSRRRRRRSSLLLLLL", "LLLLLLSSRRRRRRSS", 4), ("L" * 40, "L" * 40, 80), ("R" * 16, "L" * 16, 32),
    ("LHLSLSHLLHLSLHSL", "HLLHLSLHSLLHLSLS", 1), ("LHLSLSHLLHLSLSHL", "HLLHLSLSHLLHLSLS", 2),
)


class LeastWord(unittest.TestCase):
    def test_told_ones(self):
        for row, word, _ in TOLD:
            self.assertEqual(least_word(row), word)

    def test_it_is_the_first_of_all_forms(self):
        for row in SHUT_ROWS + shut_rows_by_trial()[1:]:
            self.assertEqual(least_word(row), min(forms(row)))

    def test_it_is_the_same_for_all_forms(self):
        for row in SHUT_ROWS:
            word = least_word(row)
            for form in forms(row):
                self.assertEqual(least_word(form), word)

    def test_the_row_without_pieces(self):
        self.assertEqual(least_word(""), "")


class SameLoop(unittest.TestCase):
    def test_each_form_is_the_same_loop(self):
        for row in SHUT_ROWS:
            for form in list(forms(row))[:50]:
                self.assertIs(same_loop(row, form), True)
                self.assertIs(same_loop(form, row), True)

    def test_like_and_unlike_loops(self):
        for row, other in itertools.product(SHUT_ROWS, repeat=2):
            self.assertIs(same_loop(row, other), other in set(forms(row)), (row, other))

    def test_loops_of_the_same_kinds_of_pieces(self):
        self.assertIs(same_loop("LHLSLSHLLHLSLHSL", "LHLSLSHLLHLSLSHL"), False)
        self.assertIs(same_loop("LLLLSLLLLS", "HLLLLHLLLL"), False)
        self.assertIs(same_loop("LLLLSLLLLS", "LLLLHHLLLLHH"), False)
        self.assertIs(same_loop("LLLLLLLL", "LLLLLLLL" * 2), False)

    def test_the_row_without_pieces(self):
        self.assertIs(same_loop("", ""), True)
        self.assertIs(same_loop("", "LLLLLLLL"), False)
        self.assertIs(same_loop("LLLLLLLL", ""), False)


class Symmetry(unittest.TestCase):
    def test_told_ones(self):
        for row, _, many in TOLD:
            self.assertEqual(symmetry(row), many)

    def test_it_counts_the_forms_that_are_the_row_itself(self):
        for row in SHUT_ROWS + shut_rows_by_trial()[1:]:
            self.assertEqual(symmetry(row), list(forms(row)).count(row))

    def test_so_many_rows_are_the_same_loop(self):
        for row in SHUT_ROWS:
            self.assertEqual(len(set(forms(row))) * symmetry(row), 4 * len(row))

    def test_so_many_rows_are_the_same_loop_of_all_that_shut(self):
        rows = shut_rows_by_trial()[1:]
        for row in rows:
            same = [other for other in rows if len(other) == len(row) and same_loop(row, other)]
            self.assertEqual(len(same) * symmetry(row), 4 * len(row))

    def test_it_is_the_same_for_all_forms(self):
        for row in ("LHLSLSHLLHLSLHSL", "LLLLHHLLLLS", "LLLLLLSSRRRRRRSS"):
            self.assertEqual({symmetry(form) for form in forms(row)}, {symmetry(row)})


class Refused(unittest.TestCase):
    def refuse(self, reason, function, *told):
        with self.assertRaises(BadRow) as raised:
            function(*told)
        self.assertEqual(raised.exception.reason, reason)

    def test_rows_that_do_not_shut(self):
        for row in OPEN_ROWS:
            self.refuse("open", least_word, row)
            self.refuse("open", symmetry, row)
            self.refuse("open", same_loop, row, row)
            for other in ("", "LLLLLLLL"):
                self.refuse("open", same_loop, row, other)
                self.refuse("open", same_loop, other, row)

    def test_the_row_without_pieces_has_no_symmetry(self):
        self.refuse("empty", symmetry, "")


class Arguments(unittest.TestCase):
    def test_no_function_changes_them(self):
        row, other = "SLLLLSLLLL", "RRRRSRRRRS"
        self.assertEqual(
            (least_word(row), same_loop(row, other), symmetry(row)), (least_word(row), same_loop(row, other), symmetry(row)),
        )
        self.assertEqual((row, other), ("SLLLLSLLLL", "RRRRSRRRRS"))
