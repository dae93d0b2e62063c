import itertools
import random
import unittest

from railshut.errors import BadPiece
from railshut.layouts import Layout
from tests.floors import (
    BALLOONS, ELSEWHERE, ToldFloor, all_ends, along, facing, islands, joints, piece_ends, some_deed, some_layouts, why_not,
)
from tests.model import HOME, OPEN_ROWS, SHUT_ROWS, all_rows, drawn_shut, laid_by_steps, lead_by_steps, some_rows

FAR = tuple((100 * at, 0, 0, 0, 0) for at in range(40))


def floor_with(layout):
    """A floor with this layout; what is None there is placed far off, and removed."""
    floor = Layout()
    for number, piece in enumerate(layout):
        floor.place(*(piece or ("H", (10 ** 9 + 100 * number, 0, 0, 0, 0))))
        if piece is None:
            floor.remove(number)
    return floor


class Case(unittest.TestCase):
    def refuse(self, reason, deed, *told):
        with self.assertRaises(BadPiece, msg=told) as raised:
            deed(*told)
        self.assertEqual(raised.exception.reason, reason, told)

    def compare(self, floor, layout):
        """All that the floor tells beside what is worked out for the layout."""
        joined = joints(layout)
        ends = all_ends(layout)
        is_open = tuple((number, end) for number, end, _ in ends if (number, end) not in joined)
        self.assertEqual(floor.layout(), layout)
        self.assertEqual(floor.ends(), tuple(ends))
        self.assertEqual(floor.open_ends(), is_open)
        self.assertEqual(floor.islands(), islands(layout))
        self.assertIs(floor.is_shut(), not is_open)
        for number, end, _ in ends[:4] + ends[-4:]:
            self.assertEqual(floor.joined(number, end), joined.get((number, end)))


class Place(Case):
    def test_numbers_in_order(self):
        floor = Layout()
        for number, kind in enumerate("SHCPQX" * 4):
            self.assertEqual(floor.place(kind, FAR[number]), number)
        self.assertEqual(floor.layout(), tuple((kind, FAR[number]) for number, kind in enumerate("SHCPQX" * 4)))

    def test_nothing_lies_there_at_first(self):
        floor = Layout()
        self.assertEqual((floor.layout(), floor.ends(), floor.open_ends(), floor.islands()), ((), (), (), ()))
        self.assertIs(floor.is_shut(), True)
        self.assertIs(Layout().undo(), False)

    def test_floors_are_apart(self):
        one, other = Layout(), Layout()
        one.place("S", HOME)
        self.assertEqual((other.layout(), other.undo(), len(one.layout())), ((), False, 1))

    def test_each_kind_has_its_ends(self):
        for kind, pose in itertools.product("SHCPQX", ELSEWHERE):
            floor = Layout()
            floor.place(kind, pose)
            self.compare(floor, ((kind, pose),))

    def test_too_many_pieces(self):
        floor = Layout()
        floor.lay(HOME, "S" * 20)
        for number in range(20, 24):
            self.assertEqual(floor.place("S", FAR[number]), number)
        before = floor.layout()
        self.refuse("too many pieces", floor.place, "S", FAR[30])
        self.refuse("too many pieces", floor.lay, FAR[30], "L")
        self.assertEqual(floor.layout(), before)

    def test_removed_numbers_do_not_come_free(self):
        floor = Layout()
        floor.lay(HOME, "S" * 24)
        for number in range(24):
            floor.remove(number)
        self.assertEqual(floor.layout(), (None,) * 24)
        self.refuse("too many pieces", floor.place, "H", HOME)
        self.refuse("too many pieces", floor.lay, HOME, "H")
        self.compare(floor, (None,) * 24)

    def test_undone_numbers_come_free(self):
        floor = Layout()
        floor.lay(HOME, "S" * 23)
        self.assertEqual(floor.place("S", FAR[1]), 23)
        self.refuse("too many pieces", floor.place, "S", FAR[2])
        self.assertTrue(floor.undo())
        self.assertEqual(floor.place("H", FAR[3]), 23)
        floor.undo()
        floor.undo()
        self.assertEqual(floor.lay(FAR[3], "L" * 7), tuple(range(7)))

    def test_ends_overlap(self):
        for kind, pose in itertools.product("SHCPQX", ELSEWHERE):
            for end in piece_ends(kind, pose):
                floor = Layout()
                floor.place(kind, pose)
                # Each of these has its end 0 just where an end lies, facing as that one does.
                for other in "SHCPQX":
                    self.refuse("ends overlap", floor.place, other, facing(end))
                self.compare(floor, ((kind, pose),))

    def test_ends_overlap_at_other_ends_than_0(self):
        for kind, there, pose in (
            ("H", (2, 0, 0, 0, 4), (1, 0, 0, 0, 0)), ("S", (2, 0, 0, 0, 4), (0, 0, 0, 0, 0)),
            ("C", (0, 0, 2, -2, 5), (0, 0, 0, 0, 0)), ("P", (2, 0, 0, 0, 4), (0, 0, 0, 0, 0)),
            ("P", (0, 0, 2, -2, 5), (0, 0, 0, 0, 0)), ("Q", (0, 2, -2, 0, 3), (0, 0, 0, 0, 0)),
            ("X", (1, 0, 1, 0, 6), (0, 0, 0, 0, 0)), ("X", (1, 0, -1, 0, 2), (0, 0, 0, 0, 0)),
        ):
            floor = Layout()
            floor.place("C", there)
            self.refuse("ends overlap", floor.place, kind, pose)
            self.compare(floor, (("C", there),))

    def test_too_many_pieces_is_told_ahead_of_ends_overlap(self):
        floor = Layout()
        floor.lay(HOME, "S" * 24)
        self.refuse("too many pieces", floor.place, "S", HOME)
        self.refuse("too many pieces", floor.lay, HOME, "SL")
        floor.undo()
        floor.lay(HOME, "S" * 23)
        self.refuse("ends overlap", floor.place, "S", HOME)
        self.refuse("too many pieces", floor.lay, HOME, "SS")

    def test_bridges_are_allowed(self):
        floor = Layout()
        floor.place("S", (-1, 0, 0, 0, 0))
        self.assertEqual(floor.place("S", (0, 0, -1, 0, 2)), 1)
        # One position with other headings is no overlap, and no joint either.
        self.assertEqual(floor.place("S", (1, 0, 0, 0, 1)), 2)
        self.assertEqual(floor.place("H", (1, 0, 0, 0, 7)), 3)
        self.assertEqual(floor.islands(), ((0,), (1,), (2,), (3,)))

    def test_removed_pieces_do_not_overlap(self):
        floor = Layout()
        floor.place("S", HOME)
        floor.remove(0)
        self.assertEqual(floor.place("S", HOME), 1)
        self.assertEqual(floor.layout(), (None, ("S", HOME)))


class Lay(Case):
    def test_each_letter(self):
        for pose in ELSEWHERE:
            floor = Layout()
            self.assertEqual(floor.lay(pose, "SHLR"), (0, 1, 2, 3))
            self.compare(floor, along(pose, "SHLR"))
            at = [lead_by_steps(pose, "SHLR"[:many]) for many in range(5)]
            expected = (("S", at[0]), ("H", at[1]), ("C", at[2]), ("C", facing(at[4])))
            self.assertEqual(floor.layout(), expected)

    def test_a_curve_to_the_right_lies_the_other_way_round(self):
        floor = Layout()
        floor.lay(HOME, "R")
        self.assertEqual(floor.layout(), (("C", (0, 2, -2, 0, 3)),))
        self.assertEqual(floor.ends(), ((0, 0, (0, 2, -2, 0, 7)), (0, 1, (0, 0, 0, 0, 4))))

    def test_a_row_is_joined_piece_by_piece(self):
        floor = Layout()
        floor.lay((1, 2, 3, 4, 5), "SRLHRRS")
        last_end = {"S": 1, "H": 1, "L": 1, "R": 0}
        for number, (one, other) in enumerate(zip("SRLHRR", "RLHRRS")):
            here, there = (number, last_end[one]), (number + 1, 1 - last_end[other])
            self.assertEqual((floor.joined(*here), floor.joined(*there)), (there, here))
        self.assertEqual(floor.open_ends(), ((0, 0), (6, 1)))

    def test_too_many_pieces_wholly(self):
        floor = Layout()
        floor.lay(HOME, "S" * 20)
        self.refuse("too many pieces", floor.lay, FAR[30], "LLLLL")
        self.compare(floor, along(HOME, "S" * 20))
        self.assertEqual(floor.lay(FAR[30], "LLLL"), (20, 21, 22, 23))
        self.refuse("too many pieces", Layout().lay, HOME, "S" * 25)
        self.refuse("too many pieces", Layout().lay, HOME, "S" * 40)
        self.assertEqual(Layout().lay(HOME, "S" * 24), tuple(range(24)))

    def test_ends_overlap_with_what_is_there_wholly(self):
        floor = Layout()
        floor.place("S", (6, 0, 0, 0, 0))
        self.refuse("ends overlap", floor.lay, HOME, "SSSS")
        self.refuse("ends overlap", floor.lay, HOME, "SSHHHH")
        self.compare(floor, (("S", (6, 0, 0, 0, 0)),))
        self.assertEqual(floor.lay(HOME, "SSS"), (1, 2, 3))

    def test_ends_overlap_within_the_row_wholly(self):
        for row in ("L" * 9, "R" * 12, "L" * 16, "LLLLSLLLLSL", "LLLLSLLLLSLLLLSLLLLS") + tuple(row + "H" for row in BALLOONS):
            floor = Layout()
            floor.place("X", FAR[3])
            self.refuse("ends overlap", floor.lay, HOME, row)
            self.compare(floor, (("X", FAR[3]),))
            self.assertEqual((floor.undo(), floor.undo()), (True, False))

    def test_too_many_pieces_is_told_ahead_of_ends_overlap(self):
        self.refuse("too many pieces", Layout().lay, HOME, "L" * 25)
        self.refuse("ends overlap", Layout().lay, HOME, "L" * 24)


class Remove(Case):
    def test_its_number_stays_unused(self):
        floor = Layout()
        floor.lay(HOME, "SHL")
        self.assertIsNone(floor.remove(1))
        self.compare(floor, (("S", HOME), None, along(HOME, "SHL")[2]))
        self.assertEqual(floor.place("H", (2, 0, 0, 0, 0)), 3)
        self.assertEqual(floor.islands(), ((0, 2, 3),))

    def test_no_such_piece(self):
        floor = Layout()
        floor.lay(HOME, "SHL")
        floor.remove(1)
        floor.place("S", FAR[2])
        floor.undo()
        before = floor.layout()
        # Below 0, removed, taken back, never used.
        for number in (-1, -3, -24, 1, 3, 4, 23, 24, 99):
            self.refuse("no such piece", floor.remove, number)
            for end in (-1, 0, 1, 7):
                self.refuse("no such piece", floor.joined, number, end)
        self.assertEqual(floor.layout(), before)
        self.refuse("no such piece", Layout().remove, 0)
        self.assertEqual((floor.undo(), floor.undo(), floor.undo(), floor.layout()), (True, True, False, ()))

    def test_a_piece_goes_only_once(self):
        floor = Layout()
        floor.place("P", HOME)
        floor.remove(0)
        self.refuse("no such piece", floor.remove, 0)
        floor.undo()
        self.assertEqual((floor.remove(0), floor.layout()), (None, (None,)))


class Undo(Case):
    def test_placing_laying_and_removing_one_by_one(self):
        floor = Layout()
        deeds = (
            (floor.place, "P", HOME), (floor.lay, (2, 0, 0, 0, 0), "SSL"), (floor.remove, 2), (floor.place, "H", FAR[9]),
            (floor.remove, 0), (floor.lay, FAR[4], "LLLLLLLL"), (floor.remove, 7),
        )
        before = []
        for deed, *told in deeds:
            before.append(floor.layout())
            deed(*told)
        for layout in reversed(before):
            self.assertIs(floor.undo(), True)
            self.compare(floor, layout)
        for _ in range(3):
            self.assertIs(floor.undo(), False)
            self.assertEqual(floor.layout(), ())

    def test_what_is_refused_leaves_nothing_to_undo(self):
        floor = Layout()
        floor.place("S", HOME)
        self.refuse("ends overlap", floor.place, "S", HOME)
        self.refuse("ends overlap", floor.lay, FAR[2], "L" * 9)
        self.refuse("too many pieces", floor.lay, FAR[2], "S" * 24)
        self.refuse("no such piece", floor.remove, 1)
        self.refuse("no such end", floor.joined, 0, 2)
        self.assertEqual((floor.undo(), floor.undo(), floor.layout()), (True, False, ()))

    def test_what_is_asked_leaves_nothing_to_undo(self):
        floor = Layout()
        floor.place("S", HOME)
        for asked in (floor.layout, floor.ends, floor.open_ends, floor.islands, floor.is_shut):
            asked()
        floor.joined(0, 0)
        self.assertEqual((floor.undo(), floor.undo()), (True, False))

    def test_deeds_go_on_behind_an_undo(self):
        floor = Layout()
        floor.lay(HOME, "SS")
        floor.remove(0)
        floor.undo()
        floor.undo()
        floor.place("X", HOME)
        floor.remove(0)
        self.assertEqual((floor.undo(), floor.layout()), (True, (("X", HOME),)))
        self.assertEqual((floor.undo(), floor.layout(), floor.undo()), (True, (), False))

    def test_all_deeds_of_a_full_floor(self):
        floor = Layout()
        for number in range(24):
            floor.place("S", FAR[number])
        for number in range(24):
            floor.remove(number)
        self.assertEqual([floor.undo() for _ in range(49)], [True] * 48 + [False])


class Joined(Case):
    def test_from_both_sides(self):
        floor = floor_with((("P", HOME), ("S", (2, 0, 0, 0, 0)), ("C", (0, 0, 2, -2, 1)), ("X", (0, 0, 0, 0, 4))))
        for one, other in (((0, 0), (3, 0)), ((0, 1), (1, 0)), ((0, 2), (2, 0))):
            self.assertEqual((floor.joined(*one), floor.joined(*other)), (other, one))
        for end in ((1, 1), (2, 1), (3, 1), (3, 2), (3, 3)):
            self.assertIsNone(floor.joined(*end))

    def test_no_end_is_joined_with_one_of_its_own_piece(self):
        for kind, pose in itertools.product("SHCPQX", ELSEWHERE):
            floor = floor_with(((kind, pose),))
            self.assertEqual([floor.joined(0, end) for end in range(len(piece_ends(kind, pose)))], [None] * len(floor.ends()))
            self.assertIs(floor.is_shut(), False)

    def test_no_such_end(self):
        for kind, many in (("S", 2), ("H", 2), ("C", 2), ("P", 3), ("Q", 3), ("X", 4)):
            floor = floor_with(((kind, HOME),))
            for end in (-1, -many, many, many + 1, 99):
                self.refuse("no such end", floor.joined, 0, end)
                self.refuse("no such piece", floor.joined, 1, end)
                self.refuse("no such piece", floor.joined, -1, end)

    def test_it_is_no_longer_joined_when_the_other_one_is_gone(self):
        floor = Layout()
        floor.lay(HOME, "SS")
        floor.remove(1)
        self.assertIsNone(floor.joined(0, 1))
        self.refuse("no such piece", floor.joined, 1, 0)
        floor.undo()
        self.assertEqual((floor.joined(0, 1), floor.joined(1, 0)), ((1, 0), (0, 1)))


class Islands(Case):
    def test_rings(self):
        for row in SHUT_ROWS:
            if why_not((), along(HOME, row)) is None:
                floor = Layout()
                floor.lay(HOME, row)
                many = len(row)
                self.assertEqual((floor.islands(), floor.is_shut()), ((tuple(range(many)),), True), row)
                floor.remove(3)
                left = tuple(number for number in range(many) if number != 3)
                self.assertEqual((floor.islands(), floor.is_shut()), ((left,), False), row)
                floor.remove(many - 1)
                self.assertEqual(floor.islands(), ((0, 1, 2), tuple(range(4, many - 1))), row)

    def test_turnouts_have_three_arms(self):
        for kind in "PQ":
            arms = piece_ends(kind, HOME)
            floor = floor_with(((kind, HOME),) + tuple(("S", arm) for arm in arms))
            self.assertEqual(floor.islands(), ((0, 1, 2, 3),))
            floor.remove(0)
            self.assertEqual((floor.islands(), len(floor.open_ends())), (((1,), (2,), (3,)), 6))

    def test_both_ways_of_a_crossing_hang_together(self):
        arms = piece_ends("X", HOME)
        floor = floor_with(tuple(("H", arm) for arm in arms) + (("X", HOME),))
        self.assertEqual(floor.islands(), ((0, 1, 2, 3, 4),))
        floor.remove(4)
        self.assertEqual(floor.islands(), ((0,), (1,), (2,), (3,)))

    def test_they_are_ordered_by_their_first_pieces(self):
        floor = floor_with((
            ("S", FAR[5]), ("S", FAR[3]), None, ("S", (502, 0, 0, 0, 0)), ("H", FAR[1]), ("S", (302, 0, 0, 0, 0)),
        ))
        self.assertEqual(floor.islands(), ((0, 3), (1, 5), (4,)))

    def test_two_rings_are_shut_together(self):
        floor = Layout()
        floor.lay(HOME, "L" * 8)
        floor.lay(FAR[7], "LLLLSLLLLS")
        self.assertEqual((floor.islands(), floor.is_shut()), ((tuple(range(8)), tuple(range(8, 18))), True))
        floor.place("X", FAR[1])
        self.assertEqual((len(floor.islands()), floor.is_shut()), (3, False))

    def test_a_floor_on_which_all_was_removed_is_shut(self):
        floor = Layout()
        floor.place("S", HOME)
        self.assertIs(floor.is_shut(), False)
        floor.remove(0)
        self.assertEqual((floor.is_shut(), floor.islands(), floor.ends()), (True, (), ()))


class RowsOnAnEmptyFloor(Case):
    def can_be_laid(self, pose, row):
        """What f6 tells, by the poses to which the row comes."""
        poses = [lead_by_steps(pose, row[:many]) for many in range(len(row) + 1)]
        inner = poses[:-1] if poses[0] == poses[-1] else poses
        return len(set(inner)) == len(inner) and not any(facing(one) in inner for one in inner)

    def look_at(self, pose, row):
        """Whether it could be laid, and what f6 tells of it then."""
        floor = Layout()
        if not self.can_be_laid(pose, row):
            self.refuse("ends overlap", floor.lay, pose, row)
            self.compare(floor, ())
            return False
        self.assertEqual(floor.lay(pose, row), tuple(range(len(row))))
        self.assertEqual(floor.layout(), along(pose, row))
        self.assertEqual(len(floor.open_ends()), 0 if drawn_shut(row) else 2, row)
        self.assertIs(floor.is_shut(), drawn_shut(row), row)
        self.assertEqual(floor.islands(), (tuple(range(len(row))),))
        return True

    def test_all_short_rows(self):
        for row in all_rows(5):
            if row:
                self.assertTrue(self.look_at((3, -1, 4, -1, 5), row), row)

    def test_long_rows(self):
        turning = ["".join(random.Random(seed).choices("LLLRHS", k=24)) for seed in range(80)]
        rows = [row[:24] for row in some_rows(60) + turning + list(SHUT_ROWS) + list(OPEN_ROWS) if row]
        taken = [self.look_at(pose, row) for row in rows for pose in ELSEWHERE[:3]]
        self.assertLess(20, taken.count(True))
        self.assertLess(20, taken.count(False))

    def test_every_number_of_letters(self):
        for many in range(1, 25):
            for row in ("S" * many, "H" * many, ("LR" * 12)[:many], ("SLLR" * 6)[:many], "L" * many, "R" * many):
                self.look_at(ELSEWHERE[many % 5], row)

    def test_rows_that_come_back_on_themselves(self):
        for row in BALLOONS:
            for pose in ELSEWHERE:
                self.assertFalse(self.look_at(pose, row))
                self.assertTrue(self.look_at(pose, row[:-1]))
                self.assertFalse(self.look_at(pose, "S" + row))
                self.assertFalse(self.look_at(pose, row + "SS"))

    def test_rows_that_shut_and_go_on(self):
        for row in ("LLLLLLLL", "LLLLSLLLLS", "SRRSRRSRRSRR", "LSLLSLLSLLSL"):
            for pose in ELSEWHERE:
                self.assertTrue(self.look_at(pose, row))
                self.assertFalse(self.look_at(pose, row + row[0]))
                self.assertFalse(self.look_at(pose, "S" + row))
                self.assertFalse(self.look_at(pose, row + "H"))

    def test_rows_that_cross_themselves_with_a_bridge(self):
        for row in ("SSLLLLLLSS", "SSSSLLLLLLSSSS", "HHRRRRRRHHH"):
            self.assertTrue(self.look_at(HOME, row))


class ManyOrders(Case):
    def test_deeds_picked_here_and_there(self):
        for seed in range(40):
            pick = random.Random(seed)
            floor, told_floor = Layout(), ToldFloor()
            for _ in range(30):
                deed, told = some_deed(pick, told_floor.layout())
                if deed == "undo":
                    expected = told_floor.undo()
                elif deed == "remove":
                    expected = told_floor.remove(*told)
                elif deed == "lay":
                    expected = told_floor.put(along(*told))
                else:
                    expected = told_floor.put((told,))
                self.do(floor, deed, told, expected)
                self.compare(floor, told_floor.layout())
            while told_floor.undo():
                self.assertIs(floor.undo(), True)
                self.assertEqual(floor.layout(), told_floor.layout())
            self.assertIs(floor.undo(), False)

    def do(self, floor, deed, told, expected):
        if isinstance(expected, str):
            self.refuse(expected, getattr(floor, deed), *told)
        elif deed == "place":
            self.assertEqual((floor.place(*told),), expected)
        else:
            self.assertEqual(getattr(floor, deed)(*told), expected)

    def test_all_ends_of_some_layouts(self):
        for layout in some_layouts(30):
            floor, joined = floor_with(layout), joints(layout)
            for number, end, _ in all_ends(layout):
                self.assertEqual(floor.joined(number, end), joined.get((number, end)))


class WhatIsGiven(Case):
    def test_a_layout_that_was_told_does_not_change(self):
        floor = Layout()
        floor.lay(HOME, "LLL")
        told = (floor.layout(), floor.ends(), floor.open_ends(), floor.islands())
        before = tuple(tuple(part) for part in told)
        floor.remove(1)
        floor.place("X", FAR[2])
        floor.undo()
        floor.undo()
        floor.undo()
        floor.place("H", HOME)
        self.assertEqual(told, before)
        self.assertEqual(told[0], along(HOME, "LLL"))

    def test_all_are_tuples(self):
        floor = Layout()
        numbers = floor.lay(HOME, "LLS")
        pose = laid_by_steps(HOME, (1, 1, 1, 1, 1))
        floor.place("P", pose)
        self.assertEqual(pose, (1, 1, 1, 1, 1))
        for told in (numbers, floor.layout(), floor.ends(), floor.open_ends(), floor.islands(), floor.joined(0, 1)):
            self.assertIs(type(told), tuple)
            for part in told:
                self.assertIn(type(part), (tuple, int))
