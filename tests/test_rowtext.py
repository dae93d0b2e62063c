import itertools
import re
import unittest

from railshut.errors import BadRow
from railshut.rowtext import read_short, short_text
from tests.model import OPEN_ROWS, SHUT_ROWS, all_rows, some_rows

TEXTS = (
    ("", ""), ("S", "S"), ("LL", "L2"), ("HHHHHHHHH", "H9"), ("R" * 10, "R10"), ("L" * 19, "L19"), ("S" * 20, "S20"),
    ("L" * 40, "L40"), ("S" * 40, "S40"), ("H" * 39 + "R", "H39R"), ("R" + "H" * 39, "RH39"),
    ("LLLLSLLLLS", "L4SL4S"), ("HHR", "H2R"), ("SHLR", "SHLR"), ("LLRRLLRR", "L2R2L2R2"), ("LRLRSS", "LRLRS2"),
    ("L" * 10 + "R" * 10 + "S" * 10 + "H" * 10, "L10R10S10H10"), ("LR" * 20, "LR" * 20),
)

NONE_IN_THIS_WRITING = {
    "a number 0 or 1": ("S0", "S1", "L4S1", "H1R", "L0S", "SL0", "S00", "S10L1"),
    "a zero ahead": ("L02", "L04", "S2H03", "R010", "L002", "S01"),
    "above 40": ("S41", "L50", "R99", "H100", "L400", "S999", "L4294967298", "S" + "9" * 5000),
    "runs of one letter": ("LL", "L2L", "LL2", "L2L3", "SSS", "HSS", "L4SSL4", "R20R20", "S1S", "L2S0L2"),
    "more than 40 letters": ("S40L", "LS40", "S21L20", "L10R10S10H10L", "LR" * 20 + "S", "L39R2", "S40L40", "LR" * 999),
    "no letter": ("2", "2L", "40", "4S", "0", "22S"),
    "another sign": (
        "X", "l4", "s", "C", "L4sL4s", "L-2", "L+2", "L2.0", "L1_0", "L4,S", "L4;", "(L2)2", "LX", "A2", "P", "Q2", "-",
        "L\u00b2", "L\u0662", "L\uff12", "\uff2c", "L4\u0000",
    ),
    "a blank": (" ", " L4", "L4 ", "L 4", "L4 S", "L4\n", "\nL4", "L4\tS", "\n", "L4\u00a0S"),
}


class ShortText(unittest.TestCase):
    def test_told_ones(self):
        for row, text in TEXTS:
            self.assertEqual(short_text(row), text)

    def test_every_length_of_a_run(self):
        for letter in "HLRS":
            for many in range(2, 41):
                self.assertEqual(short_text(letter * many), f"{letter}{many}")
                self.assertEqual(read_short(f"{letter}{many}"), letter * many)


class ReadShort(unittest.TestCase):
    def test_told_ones(self):
        for row, text in TEXTS:
            self.assertEqual(read_short(text), row)

    def test_each_short_text_gives_the_row_again(self):
        for row in list(all_rows(5)) + some_rows(200) + list(SHUT_ROWS) + list(OPEN_ROWS):
            self.assertEqual(read_short(short_text(row)), row)

    def test_just_40_letters_are_not_too_many(self):
        for text in ("S20L20", "S39L", "LS39", "L10R10S10H10", "LR" * 20):
            self.assertEqual(len(read_short(text)), 40)

    def test_what_is_none_is_refused(self):
        for why, texts in NONE_IN_THIS_WRITING.items():
            for text in texts:
                with self.subTest(why=why, text=text[:50]):
                    with self.assertRaises(BadRow) as raised:
                        read_short(text)
                    self.assertEqual(raised.exception.reason, "text")

    def test_of_all_texts_of_few_signs_just_the_right_ones_are_taken(self):
        signs = "LS0124 "
        for text in ["".join(told) for many in range(5) for told in itertools.product(signs, repeat=many)]:
            runs = re.findall("([LS])(40|[123][0-9]|[2-9])?", text)
            row = "".join(letter * int(many or 1) for letter, many in runs)
            right = "".join(letter + many for letter, many in runs) == text and len(row) <= 40
            if right and all(one != other for (one, _), (other, _) in zip(runs, runs[1:])):
                self.assertEqual(read_short(text), row)
            else:
                with self.assertRaises(BadRow, msg=text):
                    read_short(text)


class Arguments(unittest.TestCase):
    def test_no_function_changes_them(self):
        row, text = "LLLLSLLLLS", "L4SL4S"
        self.assertEqual((short_text(row), read_short(text)), (short_text(row), read_short(text)))
        self.assertEqual((row, text), ("LLLLSLLLLS", "L4SL4S"))
