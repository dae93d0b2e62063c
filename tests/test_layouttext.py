import itertools
import unittest

from railshut.errors import BadLayout
from railshut.layouttext import layout_text, parse_layout
from tests.floors import along, some_layouts
from tests.model import HOME, SHUT_ROWS

TEXTS = (
    ("", ()),
    (";", (None,)),
    (";;;", (None, None, None)),
    ("S0,0,0,0,0;", (("S", HOME),)),
    (";S0,0,-2,0,7;", (None, ("S", (0, 0, -2, 0, 7)))),
    ("H0,0,0,0,0;;", (("H", HOME), None)),
    ("C999,-999,10,-10,1;", (("C", (999, -999, 10, -10, 1)),)),
    ("P1,2,3,4,5;Q-1,-2,-3,-4,6;X100,200,-300,-400,7;",
     (("P", (1, 2, 3, 4, 5)), ("Q", (-1, -2, -3, -4, 6)), ("X", (100, 200, -300, -400, 7)))),
    ("S9,0,0,0,0;H90,0,0,0,1;;C-9,0,0,0,2;;P-90,0,0,0,3;Q0,9,0,0,4;;;X0,0,0,90,5;",
     (("S", (9, 0, 0, 0, 0)), ("H", (90, 0, 0, 0, 1)), None, ("C", (-9, 0, 0, 0, 2)), None, ("P", (-90, 0, 0, 0, 3)),
      ("Q", (0, 9, 0, 0, 4)), None, None, ("X", (0, 0, 0, 90, 5)))),
    ("S0,0,0,0,0;S2,0,0,0,0;" + ";" * 22, (("S", HOME), ("S", (2, 0, 0, 0, 0))) + (None,) * 22),
)

# Single pieces in a text that are none.
NONE = {
    "no kind": (
        "L0,0,0,0,0", "R0,0,0,0,0", "Y0,0,0,0,0", "s0,0,0,0,0", "c0,0,0,0,0", "0,0,0,0,0", ",0,0,0,0,0", "00,0,0,0,0",
        "SS0,0,0,0,0", "SHCPQX0,0,0,0,0", "-0,0,0,0,0", "\uff330,0,0,0,0",
    ),
    "too few or too many numbers": (
        "S", "X", "S0", "S0,0,0,0", "S0,0,0,0,0,0", "S,0,0,0,0,0", "S0,0,0,0,0,", "S0,0,0,0,", "S,0,0,0,0", "S0,,0,0,0",
        "S,,,,", "S0,0,0,0,0S0,0,0,0,0", "S0;0,0,0,0",
    ),
    "a zero ahead": ("S00,0,0,0,0", "S01,0,0,0,0", "S0,-01,0,0,0", "S0,0,007,0,0", "S0,0,0,0010,0", "S0,0,0,0,00", "S0,0,0,0,07"),
    "a minus at nought": ("S-0,0,0,0,0", "S0,-0,0,0,0", "S0,0,0,-0,0", "S0,0,0,0,-0", "S--1,0,0,0,0", "S-,0,0,0,0", "S1-,0,0,0,0"),
    "a plus": ("S+0,0,0,0,0", "S0,+1,0,0,0", "S0,0,0,0,+7", "S0,0,-+1,0,0"),
    "a blank": (
        " S0,0,0,0,0", "S 0,0,0,0,0", "S0 ,0,0,0,0", "S0, 0,0,0,0", "S0,0,0,0,0 ", " ", "S0,0,0,0,0\n", "\nS0,0,0,0,0",
        "\n", "S0,0,0\t,0,0", "S0,0,0,0,\u00a01",
    ),
    "too great": (
        "S1000,0,0,0,0", "S0,-1000,0,0,0", "S0,0,1000,0,0", "S0,0,0,-1000,0", "S1001,0,0,0,0", "S9999999999,0,0,0,0",
        "S" + "9" * 5000 + ",0,0,0,0", "S-" + "1" * 5000 + ",0,0,0,0",
    ),
    "no heading": ("S0,0,0,0,8", "S0,0,0,0,-1", "S0,0,0,0,9", "S0,0,0,0,10", "S0,0,0,0,-7", "S0,0,0,0,100"),
    "another sign": (
        "S1.0,0,0,0,0", "S1_0,0,0,0,0", "S0x1,0,0,0,0", "S1e2,0,0,0,0", "S\u0661,0,0,0,0", "S\u00b2,0,0,0,0",
        "S\uff11,0,0,0,0", "S(0,0,0,0,0)", "S0.0.0.0.0", "S\u22121,0,0,0,0", "Sa,0,0,0,0", "None", "S0,0,0,0,0\u0000",
    ),
}

FULL = tuple(("S", (4 * at, 0, 0, 0, 0)) for at in range(24))


class Case(unittest.TestCase):
    def refuse(self, text, place):
        with self.assertRaises(BadLayout, msg=text[:80]) as raised:
            parse_layout(text)
        self.assertEqual(raised.exception.place, place, text[:80])


class ThereAndBack(Case):
    def test_told_ones(self):
        for text, layout in TEXTS:
            self.assertEqual((layout_text(layout), parse_layout(text)), (text, layout))

    def test_each_kind_at_each_heading_and_at_the_limits(self):
        for kind, heading in itertools.product("SHCPQX", range(8)):
            for numbers in itertools.product((-999, -1, 0, 999), repeat=4):
                layout = (None, (kind, numbers + (heading,)))
                text = ";" + kind + ",".join(str(number) for number in numbers) + f",{heading};"
                self.assertEqual((layout_text(layout), parse_layout(text)), (text, layout))

    def test_every_number_of_a_pose(self):
        for number in range(-999, 1000):
            layout = (("C", (number, 0, 0, -number, 0)),)
            self.assertEqual(parse_layout(layout_text(layout)), layout)

    def test_some_layouts(self):
        for layout in some_layouts(60) + [FULL, (None,) * 24] + [along(HOME, row[:7]) for row in SHUT_ROWS]:
            self.assertEqual(parse_layout(layout_text(layout)), layout)

    def test_just_24_numbers(self):
        self.assertEqual(parse_layout(";" * 24), (None,) * 24)
        self.assertEqual(parse_layout(layout_text(FULL)), FULL)


class Refused(Case):
    def test_what_is_none_alone(self):
        for why, parts in NONE.items():
            for part in parts:
                with self.subTest(why=why, part=part[:40]):
                    self.refuse(part + ";", 0)

    def test_what_is_none_behind_others_and_ahead_of_others(self):
        for why, parts in NONE.items():
            for part in parts:
                with self.subTest(why=why, part=part[:40]):
                    self.refuse("H40,0,0,0,0;;C60,0,0,0,0;" + part + ";", 3)
                    self.refuse(";" + part + ";H40,0,0,0,0;;S;", 1)

    def test_each_number_just_beyond_its_limits(self):
        for at, beyond in itertools.product(range(5), (-1000, 1000)):
            numbers = ["0"] * 5
            numbers[at] = str(beyond)
            self.refuse("S" + ",".join(numbers) + ";", 0)

    def test_what_stands_behind_the_last_semicolon(self):
        for text, place in (
            ("S0,0,0,0,0", 0), ("S0,0,0,0,0;S2,0,0,0,0", 1), (";;S2,0,0,0,0", 2), (";\n", 1), ("; ", 1), (";;;X", 3), ("0", 0),
            ("S0,0,0,0,0;\n", 1), (";" * 23 + "S0,0,0,0,0", 23), (";" * 24 + "S0,0,0,0,0", 24), (";" * 24 + "\n", 24),
        ):
            self.refuse(text, place)

    def test_the_twenty_fifth_number(self):
        full = layout_text(FULL)
        for text in (";" * 25, ";" * 40, full + ";", full + "S-500,0,0,0,0;", full + "S;", full + ";;;X", ";" * 24 + "S0,0,0,0,0;"):
            self.refuse(text, 24)
        self.refuse(";" * 23 + "S;;;", 23)

    def test_an_overlap_with_a_piece_ahead(self):
        for text, place in (
            ("S0,0,0,0,0;S0,0,0,0,0;", 1), ("S0,0,0,0,0;;H0,0,0,0,0;", 2), ("S0,0,0,0,0;S2,0,0,0,4;", 1),
            ("S0,0,0,0,0;H1,0,0,0,0;", 1), ("P0,0,0,0,0;C2,0,0,0,0;C0,0,2,-2,5;", 2), ("X0,0,0,0,0;S1,0,0,-1,0;C1,0,-1,0,2;", 2),
            ("S0,0,0,0,0;S2,0,0,0,0;S4,0,0,0,0;S2,0,0,0,0;S0,0,0,0,0;", 3),
        ):
            self.refuse(text, place)

    def test_pieces_that_are_joined_or_lie_across_do_not_overlap(self):
        for text in ("S0,0,0,0,0;S2,0,0,0,0;", "S0,0,0,0,0;S1,0,-1,0,2;", "S0,0,0,0,0;S0,0,0,0,1;", "S0,0,0,0,0;H0,0,0,0,4;"):
            self.assertEqual(layout_text(parse_layout(text)), text)

    def test_the_first_wrong_one_is_told(self):
        for text, place in (
            ("S0,0,0,0,0;S0,0,0,0,0;S;", 1), ("S0,0,0,0,0;S;S0,0,0,0,0;", 1), (";S0,0,0,0,8;S0,0,0,0,9;X", 1),
            ("S0,0,0,0,0;S2,0,0,0,0;H0,0,0,0,0;" + ";" * 30, 2), (";" * 20 + "L0,0,0,0,0;" + ";" * 30, 20),
            ("S0,0,0,0,0;H0,0,0,0,0;S", 1), ("S0,0,0,0,0;S0,0,0,0,8;H0,0,0,0,0", 1),
        ):
            self.refuse(text, place)

    def test_each_text_without_its_last_signs(self):
        for text, layout in TEXTS:
            for many in range(len(text)):
                if many == 0 or text[many - 1] == ";":
                    self.assertEqual(parse_layout(text[:many]), layout[:text[:many].count(";")])
                else:
                    self.refuse(text[:many], text[:many].count(";"))


class Arguments(unittest.TestCase):
    def test_no_function_changes_them(self):
        for text, layout in TEXTS:
            for _ in range(2):
                self.assertEqual((layout_text(layout), parse_layout(text)), (text, layout))
            self.assertIs(type(parse_layout(text)), tuple)
