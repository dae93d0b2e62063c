import unittest

from railshut.poses import laid
from railshut.rows import backwards, lead, mirrored, poses_along, shuts, tally, turn
from tests.model import (
    OPEN_ROWS, POSES, SHUT_ROWS, all_rows, drawn, drawn_shut, lead_by_steps, plane, some_rows,
)

HOME = (0, 0, 0, 0, 0)

# From home with each heading: where S, H, L and R lead.
LEADS = (
    ((2, 0, 0, 0, 0), (1, 0, 0, 0, 0), (0, 0, 2, -2, 1), (0, 2, -2, 0, 7)),
    ((0, 2, 0, 0, 1), (0, 1, 0, 0, 1), (2, 0, 0, 2, 2), (0, 0, 2, -2, 0)),
    ((0, 0, 2, 0, 2), (0, 0, 1, 0, 2), (-2, 2, 0, 0, 3), (2, 0, 0, 2, 1)),
    ((0, 0, 0, 2, 3), (0, 0, 0, 1, 3), (0, -2, 2, 0, 4), (-2, 2, 0, 0, 2)),
    ((-2, 0, 0, 0, 4), (-1, 0, 0, 0, 4), (0, 0, -2, 2, 5), (0, -2, 2, 0, 3)),
    ((0, -2, 0, 0, 5), (0, -1, 0, 0, 5), (-2, 0, 0, -2, 6), (0, 0, -2, 2, 4)),
    ((0, 0, -2, 0, 6), (0, 0, -1, 0, 6), (2, -2, 0, 0, 7), (-2, 0, 0, -2, 5)),
    ((0, 0, 0, -2, 7), (0, 0, 0, -1, 7), (0, 2, -2, 0, 0), (2, -2, 0, 0, 6)),
)

LONG_ROWS = some_rows(40) + ["S" * 40, "L" * 40, "R" * 40, "H" * 40, "LR" * 20]


class Lead(unittest.TestCase):
    def test_each_letter_from_home_with_each_heading(self):
        for heading, told in enumerate(LEADS):
            for letter, expected in zip("SHLR", told):
                self.assertEqual(lead((0, 0, 0, 0, heading), letter), expected, (heading, letter))

    def test_each_letter_from_elsewhere(self):
        for pose in POSES:
            for at, letter in enumerate("SHLR"):
                away = LEADS[pose[4]][at]
                expected = tuple(here + more for here, more in zip(pose[:4], away[:4])) + away[4:]
                self.assertEqual(lead(pose, letter), expected, (pose, letter))

    def test_the_row_without_letters(self):
        for pose in POSES:
            self.assertEqual(lead(pose, ""), pose)

    def test_rows_of_many_letters(self):
        for row in LONG_ROWS:
            for pose in (HOME, (1, -2, 3, -4, 5), (10 ** 30, 0, -(10 ** 29), 7, 7)):
                self.assertEqual(lead(pose, row), lead_by_steps(pose, row), (pose, row))

    def test_a_curve_is_an_eighth_of_a_circle_with_a_radius_of_two_steps(self):
        for row in LONG_ROWS:
            pose = lead(HOME, row)
            at, eighths = drawn(row)
            self.assertAlmostEqual(abs(plane(pose[:4]) - at), 0)
            self.assertEqual(pose[4], eighths % 8)

    def test_from_a_pose_as_from_home_laid_there(self):
        for pose in POSES:
            for row in ("S", "LLRS", "HRSL", LONG_ROWS[0]):
                self.assertEqual(lead(pose, row), laid(pose, lead(HOME, row)))


class PosesAlong(unittest.TestCase):
    def test_it_begins_at_home_and_has_one_more_than_pieces(self):
        for row in LONG_ROWS + list(SHUT_ROWS) + ["", "S", "L"]:
            poses = poses_along(row)
            self.assertIs(type(poses), tuple)
            self.assertEqual(len(poses), len(row) + 1)
            self.assertEqual(poses[0], HOME)
            self.assertEqual(list(poses), [lead_by_steps(HOME, row[:many]) for many in range(len(row) + 1)])

    def test_told_ones(self):
        self.assertEqual(poses_along(""), (HOME,))
        self.assertEqual(poses_along("SR"), (HOME, (2, 0, 0, 0, 0), (2, 2, -2, 0, 7)))
        self.assertEqual(poses_along("LH"), (HOME, (0, 0, 2, -2, 1), (0, 1, 2, -2, 1)))


class Shuts(unittest.TestCase):
    def test_rows_that_shut(self):
        for row in SHUT_ROWS + ("",):
            self.assertIs(shuts(row), True, row)

    def test_rows_that_do_not(self):
        for row in OPEN_ROWS:
            self.assertIs(shuts(row), False, row)

    def test_a_turn_that_is_no_multiple_of_8(self):
        for row, eighths in (("SLLLLLLS", 6), ("SRRRRRRS", -6), ("SLLLLLLS" * 2, 12)):
            self.assertEqual((tally(row), turn(row), shuts(row)), ((0, 0, 0, 0), eighths, False))

    def test_a_tally_that_is_not_nought(self):
        for row, steps in (("LLLLLLLLS", (2, 0, 0, 0)), ("SH", (3, 0, 0, 0)), ("LLLLSLLLLH", (-1, 0, 0, 0))):
            self.assertEqual((tally(row), turn(row) % 8, shuts(row)), (steps, 0, False))

    def test_by_turn_and_tally(self):
        for row in list(all_rows(5)) + LONG_ROWS + list(SHUT_ROWS) + list(OPEN_ROWS):
            self.assertEqual(shuts(row), turn(row) % 8 == 0 and tally(row) == (0, 0, 0, 0), row)
            self.assertEqual(shuts(row), drawn_shut(row), row)

    def test_any_multiple_of_8_will_do(self):
        for row, eighths in (("LLLLLLSSRRRRRRSS", 0), ("R" * 8, -8), ("L" * 16, 16), ("SLLLLLLS" * 4, 24), ("L" * 40, 40)):
            self.assertEqual((turn(row), shuts(row)), (eighths, True))


class OtherRows(unittest.TestCase):
    def test_backwards(self):
        told = (("", ""), ("S", "S"), ("H", "H"), ("L", "R"), ("R", "L"), ("LLRS", "SLRR"), ("HSLR", "LRSH"))
        for row, expected in told:
            self.assertEqual(backwards(row), expected)
        for row in LONG_ROWS:
            self.assertEqual(backwards(backwards(row)), row)

    def test_backwards_leads_back(self):
        for row in LONG_ROWS:
            there = lead(HOME, row)
            facing = there[:4] + ((there[4] + 4) % 8,)
            self.assertEqual(lead(facing, backwards(row)), (0, 0, 0, 0, 4))

    def test_mirrored(self):
        told = (("", ""), ("S", "S"), ("H", "H"), ("L", "R"), ("R", "L"), ("LLRS", "RRLS"), ("HSLR", "HSRL"))
        for row, expected in told:
            self.assertEqual(mirrored(row), expected)
        for row in LONG_ROWS:
            self.assertEqual(mirrored(mirrored(row)), row)
            self.assertEqual(mirrored(backwards(row)), row[::-1])

    def test_turn(self):
        told = (("", 0), ("SHSH", 0), ("L", 1), ("R", -1), ("LLRS", 1), ("RRLRH", -2), ("L" * 40, 40), ("R" * 40, -40))
        for row, expected in told:
            self.assertEqual(turn(row), expected)

    def test_tally(self):
        told = (
            ("", (0, 0, 0, 0)), ("HS", (3, 0, 0, 0)), ("L", (0, 0, 2, -2)), ("R", (0, 2, -2, 0)),
            ("LLLL", (0, 0, 4, 0)), ("RRRR", (0, 0, -4, 0)), ("LS", (0, 2, 2, -2)), ("S" * 40, (80, 0, 0, 0)),
        )
        for row, expected in told:
            self.assertEqual(tally(row), expected)
        for row in LONG_ROWS:
            self.assertEqual(tally(row), lead_by_steps(HOME, row)[:4])


class WhereItIsBegun(unittest.TestCase):
    def test_a_row_that_shuts_does_so_begun_at_each_piece_backwards_and_mirrored(self):
        for row in SHUT_ROWS:
            for at in range(len(row)):
                begun = row[at:] + row[:at]
                for form in (begun, backwards(begun), mirrored(begun), mirrored(backwards(begun))):
                    self.assertIs(shuts(form), True, form)

    def test_one_that_does_not_shut_never_does(self):
        for row in OPEN_ROWS:
            for at in range(len(row)):
                begun = row[at:] + row[:at]
                for form in (begun, backwards(begun), mirrored(begun), mirrored(backwards(begun))):
                    self.assertIs(shuts(form), False, form)


class Arguments(unittest.TestCase):
    def test_no_function_changes_them(self):
        pose, row = (1, -2, 3, -4, 5), "LLRSHHSR"
        lead(pose, row)
        for function in (poses_along, shuts, backwards, mirrored, turn, tally):
            self.assertEqual(function(row), function(row))
        self.assertEqual((pose, row), ((1, -2, 3, -4, 5), "LLRSHHSR"))
