import itertools
import math
import unittest

from railshut.extents import extent, fits_on, least_turn, size
from railshut.surds import east, north, surd_added, surd_less
from tests.floors import ELSEWHERE, all_ends, along, put_elsewhere, some_layouts
from tests.model import HOME, STEPS, laid_by_steps, plane
from tests.tracks import TRACKS

STRAIGHT = (("S", HOME),)
NORTHWARDS = (("S", (0, 0, 0, 0, 2)),)
SLANTING = (("S", (0, 0, 0, 0, 1)),)
SOME = tuple(some_layouts(25, seed=13, deeds=6)) + tuple(layout for layout in TRACKS.values() if any(layout))
GREAT = (10 ** 40, -(10 ** 39) - 3, 7, 10 ** 41 + 1)


def worth(surd):
    return (surd[0] + surd[1] * math.sqrt(2)) / 2


def turned(layout, eighths):
    return put_elsewhere(layout, (0, 0, 0, 0, eighths))


class Extent(unittest.TestCase):
    def test_told_ones(self):
        for layout, expected, parts in (
            (STRAIGHT, ((0, 0), (0, 0), (4, 0), (0, 0)), ((4, 0), (0, 0))),
            (NORTHWARDS, ((0, 0), (0, 0), (0, 0), (4, 0)), ((0, 0), (4, 0))),
            (SLANTING, ((0, 0), (0, 0), (0, 2), (0, 2)), ((0, 2), (0, 2))),
            ((("H", (-5, 0, 3, 0, 4)),), ((-12, 0), (6, 0), (-10, 0), (6, 0)), ((2, 0), (0, 0))),
            ((("C", HOME),), ((0, 0), (0, 0), (0, 2), (4, -2)), ((0, 2), (4, -2))),
            ((("Q", HOME), None), ((0, 0), (-4, 2), (4, 0), (0, 0)), ((4, 0), (4, -2))),
            ((("X", HOME),), ((0, 0), (-2, 0), (4, 0), (2, 0)), ((4, 0), (4, 0))),
            (TRACKS["ring"], ((-4, 0), (0, 0), (4, 0), (8, 0)), ((8, 0), (8, 0))),
            (STRAIGHT + (None, ("H", (0, 0, 9, 0, 2))), ((0, 0), (0, 0), (4, 0), (20, 0)), ((4, 0), (20, 0))),
        ):
            self.assertEqual((extent(layout), size(layout)), (expected, parts), layout)

    def test_without_pieces(self):
        for layout in ((), (None,), (None, None)):
            self.assertEqual((extent(layout), size(layout)), (None, None))

    def test_a_straight_at_each_heading(self):
        for heading in range(8):
            layout = (("S", (0, 0, 0, 0, heading)),)
            expected = {0: ((4, 0), (0, 0)), 1: ((0, 2), (0, 2)), 2: ((0, 0), (4, 0)), 3: ((0, 2), (0, 2))}[heading % 4]
            self.assertEqual(size(layout), expected)
            west, south, most_east, most_north = extent(layout)
            there = 2 * plane(STEPS[heading])
            self.assertAlmostEqual(worth(west), min(0, there.real))
            self.assertAlmostEqual(worth(most_east), max(0, there.real))
            self.assertAlmostEqual(worth(south), min(0, there.imag))
            self.assertAlmostEqual(worth(most_north), max(0, there.imag))

    def test_beside_the_points_of_the_plane(self):
        for layout, heading in itertools.product(SOME, range(8)):
            layout = put_elsewhere(layout, (3, -4, 5, 2, heading))
            points = [plane(pose[:4]) for _, _, pose in all_ends(layout)]
            easts, norths = [point.real for point in points], [point.imag for point in points]
            told = extent(layout)
            for surd, expected in zip(told, (min(easts), min(norths), max(easts), max(norths))):
                self.assertAlmostEqual(worth(surd), expected)
            # Exactly they are coordinates of ends, whatever the roots are about.
            positions = [pose[:4] for _, _, pose in all_ends(layout)]
            for at, coordinate in enumerate((east, north, east, north)):
                self.assertIn(told[at], [coordinate(position) for position in positions])
            self.assertEqual(size(layout), (surd_less(told[2], told[0]), surd_less(told[3], told[1])))

    def test_moving_changes_no_size(self):
        for layout in SOME:
            for position in [pose[:4] for pose in ELSEWHERE] + [GREAT]:
                moved = put_elsewhere(layout, position + (0,))
                self.assertEqual(size(moved), size(layout))
                by = (east(position), north(position)) * 2
                self.assertEqual(extent(moved), tuple(surd_added(one, more) for one, more in zip(extent(layout), by)))

    def test_turning_by_two_eighths_exchanges_the_parts_of_the_size(self):
        for layout, eighths in itertools.product(SOME, range(8)):
            one, other = size(turned(layout, eighths))
            self.assertEqual(size(turned(layout, eighths + 2)), (other, one))
            self.assertEqual(size(turned(layout, eighths + 4)), (one, other))

    def test_ends_that_are_very_near_one_another(self):
        # 17 is a little more than 12 times the root of 2, which is 24 steps to the north-east told as surds.
        layout = (("S", (17, 0, 0, 0, 2)), ("S", (0, 24, 0, 0, 2)))
        self.assertEqual((extent(layout)[0], extent(layout)[2]), ((0, 24), (34, 0)))
        layout = (("S", (41, 0, 0, 0, 2)), ("S", (0, 58, 0, 0, 2)))
        self.assertEqual((extent(layout)[0], extent(layout)[2]), ((82, 0), (0, 58)))


class FitsOn(unittest.TestCase):
    def test_tables_that_fit_exactly_and_that_are_one_step_too_small(self):
        for layout, width, height in (
            (STRAIGHT, 2, 0), (NORTHWARDS, 0, 2), (SLANTING, 2, 2), (TRACKS["ring"], 4, 4), ((("X", HOME),), 2, 2),
            ((("C", HOME),), 2, 1), ((("C", (0, 0, 0, 0, 2)),), 1, 2), (along(HOME, "S" * 20), 40, 0),
            (along(GREAT + (2,), "S" * 24), 0, 48), (along(HOME, "SHLR"), 6, 2),
        ):
            self.assertIs(fits_on(layout, width, height), True, (layout, width, height))
            self.assertIs(fits_on(layout, width + 1, height + 1), True)
            self.assertIs(fits_on(layout, width + 100, height), True)
            self.assertIs(fits_on(layout, width, height + 100), True)
            if width:
                self.assertIs(fits_on(layout, width - 1, height), False, (layout, width - 1, height))
            if height:
                self.assertIs(fits_on(layout, width, height - 1), False, (layout, width, height - 1))

    def test_the_width_beside_the_first_part_and_the_height_beside_the_second_one(self):
        self.assertEqual((fits_on(STRAIGHT, 2, 0), fits_on(STRAIGHT, 0, 2)), (True, False))
        self.assertEqual((fits_on(NORTHWARDS, 2, 1), fits_on(NORTHWARDS, 1, 2)), (False, True))

    def test_tables_of_width_nought(self):
        for layout, expected in ((NORTHWARDS, True), (STRAIGHT, False), (SLANTING, False), ((), True), ((None,), True)):
            self.assertIs(fits_on(layout, 0, 5), expected)
            self.assertIs(fits_on(layout, 0, 0), not any(layout))

    def test_layouts_without_pieces_fit_on_every_table(self):
        for layout, width, height in itertools.product(((), (None,), (None, None)), (0, 1, 9), (0, 1, 9)):
            self.assertIs(fits_on(layout, width, height), True)
            self.assertEqual(least_turn(layout, width, height), 0)

    def test_beside_the_points_of_the_plane(self):
        for layout in SOME:
            wide, high = (worth(part) for part in size(layout))
            for width, height in itertools.product((0, 1, 2, 4, 5, 7, 10, 14, 20), repeat=2):
                expected = wide < width + 1e-9 and high < height + 1e-9
                self.assertIs(fits_on(layout, width, height), expected)

    def test_tables_that_are_nearly_great_enough(self):
        # 99 is a little less than 70 times the root of 2, and 17 a little more than 12 times.
        self.assertEqual([fits_on((("S", HOME), ("S", (0, 140, 0, 0, 6))), width, 200) for width in (98, 99)], [False, True])
        slanting = along((0, 0, 0, 0, 1), "S" * 12)
        self.assertEqual([fits_on(slanting, side, side) for side in (16, 17)], [False, True])
        self.assertEqual(size(slanting), ((0, 24), (0, 24)))


class LeastTurn(unittest.TestCase):
    def test_told_ones(self):
        for layout, width, height, expected in (
            (STRAIGHT, 2, 0, 0), (STRAIGHT, 2, 1, 0), (STRAIGHT, 1, 2, 2), (STRAIGHT, 0, 2, 2), (STRAIGHT, 1, 1, None),
            (NORTHWARDS, 2, 1, 2), (NORTHWARDS, 0, 2, 0), (NORTHWARDS, 2, 0, 2), (SLANTING, 2, 2, 0), (SLANTING, 2, 1, 3),
            (SLANTING, 1, 2, 1), (SLANTING, 2, 0, 3), (SLANTING, 1, 1, None), ((("S", (5, 5, 5, 5, 7)),), 2, 0, 1),
            (along(HOME, "S" * 3), 5, 5, 1), (along(HOME, "S" * 3), 4, 5, None), (along(HOME, "S" * 3), 6, 0, 0),
            ((("S", GREAT + (3,)), None), 2, 0, 1), (TRACKS["ring"], 4, 4, 0), (TRACKS["ring"], 3, 9, None),
        ):
            self.assertEqual(least_turn(layout, width, height), expected, (layout, width, height))

    def test_beside_a_trial_of_all_turns(self):
        seen = set()
        for layout in SOME:
            for width, height in itertools.product((1, 2, 4, 5, 7, 10), repeat=2):
                fitting = [eighths for eighths in range(8) if fits_on(turned(layout, eighths), width, height)]
                expected = fitting[0] if fitting else None
                self.assertEqual(least_turn(layout, width, height), expected)
                seen.add(expected)
        self.assertEqual(seen, {None, 0, 1, 2, 3})

    def test_turned_elsewhere_it_is_the_same(self):
        for layout, pose in itertools.product(SOME[:10], ELSEWHERE):
            moved = put_elsewhere(layout, pose[:4] + (0,))
            self.assertEqual(least_turn(moved, 5, 7), least_turn(layout, 5, 7))


class Arguments(unittest.TestCase):
    def test_no_function_changes_them(self):
        layout = (None, ("S", (1, 2, 3, 4, 5)), ("X", laid_by_steps(HOME, (7, 0, 0, 0, 3))))
        before = tuple(layout)
        for _ in range(2):
            for function, told in ((extent, ()), (size, ()), (fits_on, (5, 5)), (least_turn, (5, 5))):
                self.assertEqual(function(layout, *told), function(layout, *told))
        self.assertEqual(layout, before)
