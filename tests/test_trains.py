import itertools
import unittest

from railshut.errors import BadTrain
from railshut.trains import cycle, facing_round, run_train, step_train, trains_of
from tests.floors import along, piece_ends, put_elsewhere, some_layouts
from tests.model import HOME
from tests.tracks import (
    BALLOON, EIGHT, FAR_BALLOON, PASSES, RING, ROUND, SIDING, TRACKS, TWO_SIDINGS, all_trains, choices, stepped, turnouts,
)

SOME = tuple(TRACKS.values()) + tuple(some_layouts(25, seed=17))


class Case(unittest.TestCase):
    def refuse(self, reason, layout, thrown, train):
        for function, told in ((step_train, ()), (run_train, (0,)), (run_train, (3,)), (cycle, ())):
            with self.assertRaises(BadTrain, msg=(function, thrown, train)) as raised:
                function(layout, thrown, train, *told)
            self.assertEqual(raised.exception.reason, reason, (function, thrown, train))


class TrainsOf(unittest.TestCase):
    def test_each_kind(self):
        for kind, expected in (
            ("S", ((0, 0, 1), (0, 1, 0))), ("H", ((0, 0, 1), (0, 1, 0))), ("C", ((0, 0, 1), (0, 1, 0))),
            ("P", ((0, 0, 1), (0, 0, 2), (0, 1, 0), (0, 2, 0))), ("Q", ((0, 0, 1), (0, 0, 2), (0, 1, 0), (0, 2, 0))),
            ("X", ((0, 0, 1), (0, 1, 0), (0, 2, 3), (0, 3, 2))),
        ):
            self.assertEqual(trains_of(((kind, (3, 1, 4, 1, 5)),)), expected)

    def test_with_gaps_in_order(self):
        layout = (None, ("X", HOME), None, ("H", (9, 0, 0, 0, 0)), ("Q", (20, 0, 0, 0, 1)), None)
        self.assertEqual(trains_of(layout), (
            (1, 0, 1), (1, 1, 0), (1, 2, 3), (1, 3, 2), (3, 0, 1), (3, 1, 0), (4, 0, 1), (4, 0, 2), (4, 1, 0), (4, 2, 0),
        ))
        self.assertEqual((trains_of(()), trains_of((None, None))), ((), ()))

    def test_some_layouts(self):
        for layout in SOME:
            told = trains_of(layout)
            self.assertEqual(told, tuple(all_trains(layout)))
            self.assertEqual(tuple(sorted(told)), told)
            self.assertEqual({facing_round(train) for train in told}, set(told))

    def test_facing_round(self):
        for train, expected in (((0, 0, 1), (0, 1, 0)), ((7, 2, 0), (7, 0, 2)), ((23, 3, 2), (23, 2, 3))):
            self.assertEqual((facing_round(train), facing_round(facing_round(train))), (expected, train))


class StepTrain(Case):
    def test_over_each_kind_from_each_end(self):
        # A straight is joined to the end; what comes from it leaves by the end that is told.
        for kind, end, thrown, leaving in (
            ("S", 0, (), 1), ("S", 1, (), 0), ("H", 0, (), 1), ("H", 1, (), 0), ("C", 0, (), 1), ("C", 1, (), 0),
            ("P", 0, (), 1), ("P", 0, (0,), 2), ("P", 1, (), 0), ("P", 1, (0,), 0), ("P", 2, (), 0), ("P", 2, (0,), 0),
            ("Q", 0, (), 1), ("Q", 0, (0,), 2), ("Q", 1, (), 0), ("Q", 1, (0,), 0), ("Q", 2, (), 0), ("Q", 2, (0,), 0),
            ("X", 0, (), 1), ("X", 1, (), 0), ("X", 2, (), 3), ("X", 3, (), 2),
        ):
            layout = ((kind, (1, 2, 3, 4, 5)), None, ("S", piece_ends(kind, (1, 2, 3, 4, 5))[end]))
            self.assertEqual(step_train(layout, thrown, (2, 1, 0)), (0, end, leaving), (kind, end, thrown))
            self.assertIsNone(step_train(layout, thrown, (2, 0, 1)))
            self.assertIsNone(step_train(layout, thrown, (0, end, leaving)))
            if (leaving, end) in PASSES[kind]:
                self.assertEqual(step_train(layout, thrown, (0, leaving, end)), (2, 0, 1))

    def test_a_train_leaves_by_its_exit_whatever_is_thrown_under_it(self):
        for thrown in ((), (0,)):
            self.assertEqual(step_train(ROUND, thrown, (0, 0, 1)), (8, 0, 1))
            self.assertEqual(step_train(ROUND, thrown, (0, 0, 2)), (1, 0, 1))

    def test_the_examples_of_the_document(self):
        self.assertEqual(step_train(ROUND, (), (8, 1, 0)), (0, 1, 0))
        self.assertEqual((step_train(ROUND, (), (7, 0, 1)), step_train(ROUND, (0,), (7, 0, 1))), ((0, 0, 1), (0, 0, 2)))
        self.assertEqual(step_train(EIGHT, (), (8, 0, 1)), (0, 2, 3))

    def test_beside_the_ends_looked_for(self):
        for layout in SOME:
            for thrown in choices(layout)[:6] + choices(layout)[-1:]:
                for train in all_trains(layout):
                    self.assertEqual(step_train(layout, thrown, train), stepped(layout, thrown, train))

    def test_what_is_stepped_comes_back_facing_round(self):
        for layout in SOME:
            for train in all_trains(layout):
                ahead = step_train(layout, (), train)
                if ahead is not None:
                    piece, entry, leaving = step_train(layout, tuple(turnouts(layout)), facing_round(ahead)) or (None,) * 3
                    self.assertEqual((piece, entry), facing_round(train)[:2])


class RunTrain(Case):
    def test_told_ones(self):
        for layout, thrown, train, steps, expected in (
            (ROUND, (), (8, 0, 1), 0, (8, 0, 1)), (ROUND, (), (8, 0, 1), 1, None), (ROUND, (), (8, 0, 1), 99, None),
            (ROUND, (), (8, 1, 0), 1, (0, 1, 0)), (ROUND, (), (8, 1, 0), 2, (7, 1, 0)), (ROUND, (), (8, 1, 0), 9, (0, 2, 0)),
            (ROUND, (), (7, 0, 1), 1, (0, 0, 1)), (ROUND, (), (7, 0, 1), 2, (8, 0, 1)), (ROUND, (), (7, 0, 1), 3, None),
            (ROUND, (0,), (7, 0, 1), 3, (2, 0, 1)), (ROUND, (0,), (7, 0, 1), 8 * 10 ** 12, (7, 0, 1)),
            (RING, (), (3, 0, 1), 1001, (4, 0, 1)), (RING, (), (3, 1, 0), 4, (7, 1, 0)), (RING, (), (0, 1, 0), 0, (0, 1, 0)),
            (EIGHT, (), (0, 0, 1), 9, (0, 2, 3)), (EIGHT, (), (0, 0, 1), 18, (0, 0, 1)), (BALLOON, (), (15, 0, 1), 17, (15, 1, 0)),
            (BALLOON, (), (15, 0, 1), 18, None),
        ):
            self.assertEqual(run_train(layout, thrown, train, steps), expected, (thrown, train, steps))

    def test_step_by_step(self):
        for layout in SOME:
            for thrown in choices(layout)[:3] + choices(layout)[-1:]:
                for train in all_trains(layout)[:12]:
                    here = train
                    for steps in range(40):
                        if steps < 5 or not steps % 9:
                            self.assertEqual(run_train(layout, thrown, train, steps), here)
                        here = here and stepped(layout, thrown, here)


class Cycle(Case):
    def test_told_ones(self):
        for layout, thrown, train, expected in (
            (RING, (), (0, 0, 1), (0, 8)), (RING, (), (5, 1, 0), (0, 8)), (EIGHT, (), (0, 0, 1), (0, 18)), (EIGHT, (), (4, 1, 0), (0, 18)),
            # A train that comes into a ring later, and then leaves the turnout by another end than at first.
            (ROUND, (0,), (8, 1, 0), (2, 8)), (ROUND, (), (8, 1, 0), (2, 8)), (ROUND, (0,), (0, 1, 0), (1, 8)), (ROUND, (), (0, 2, 0), (0, 8)),
            (ROUND, (0,), (1, 0, 1), (0, 8)),
            # Trains that run off, at once and later.
            (ROUND, (), (8, 0, 1), None), (ROUND, (), (1, 0, 1), None), (ROUND, (0,), (0, 0, 1), None), (BALLOON, (), (15, 0, 1), None),
            (TRACKS["a row"], (), (0, 0, 1), None), ((("S", HOME),), (), (0, 0, 1), None),
        ):
            self.assertEqual(cycle(layout, thrown, train), expected, (thrown, train))

    def test_a_loop_behind_a_siding(self):
        layout = SIDING + (("S", (-2, 0, 0, 0, 0)),)
        for thrown in choices(layout):
            for train in all_trains(layout):
                self.assertIsNone(cycle(layout, thrown, train))

    def test_beside_steps_until_it_comes_again(self):
        for layout in SOME:
            for thrown in choices(layout)[:6] + choices(layout)[-1:]:
                for train in all_trains(layout):
                    seen, here = [], train
                    while here is not None and here not in seen:
                        seen.append(here)
                        here = stepped(layout, thrown, here)
                    expected = None if here is None else (seen.index(here), len(seen) - seen.index(here))
                    self.assertEqual(cycle(layout, thrown, train), expected)
                    if expected is not None:
                        start, length = expected
                        again = run_train(layout, thrown, train, start + 5 * length)
                        self.assertEqual(again, run_train(layout, thrown, train, start))

    def test_a_row_that_shuts_brings_a_train_round(self):
        for row in ("LLLLLLLL", "RRRRRRRR", "LLLLSLLLLS", "SRRSRRSRRSRR", "LHLSLSHLLHLSLSHL"):
            for train in ((0, 0, 1), (0, 1, 0)):
                self.assertEqual(cycle(along((3, 1, 4, 1, 5), row), (), train), (0, len(row)))


class Refused(Case):
    def test_no_turnout(self):
        for thrown in (
            (0, 0), (9, 0), (1,), (0, 1), (0, 1, 9), (-1,), (10,), (99,), (0, 9, 9), (9, 9), (-10,), (0, 9, 10), (-1, 0),
        ):
            self.refuse("no turnout", SIDING, thrown, (0, 0, 1))
        self.refuse("no turnout", RING, (0,), (0, 0, 1))
        self.refuse("no turnout", EIGHT, (0,), (0, 0, 1))
        self.refuse("no turnout", FAR_BALLOON, (0,), (1, 0, 1))
        self.refuse("no turnout", (), (0,), (0, 0, 1))

    def test_turnouts_with_gaps_are_taken(self):
        self.assertEqual(turnouts(FAR_BALLOON), [1, 12])
        for thrown in ((), (1,), (12,), (1, 12)):
            self.assertEqual(run_train(FAR_BALLOON, thrown, (1, 0, 1), 0), (1, 0, 1))

    def test_no_train(self):
        for layout, wrong in (
            (SIDING, (0, 1, 2)), (SIDING, (0, 2, 1)), (SIDING, (0, 0, 0)), (SIDING, (0, 0, 3)), (SIDING, (1, 0, 2)), (SIDING, (1, 1, 1)),
            (SIDING, (10, 0, 1)), (SIDING, (-1, 0, 1)), (SIDING, (-10, 0, 1)), (SIDING, (0, -3, 1)), (SIDING, (0, 0, -1)),
            (EIGHT, (0, 0, 2)), (EIGHT, (0, 1, 3)), (EIGHT, (0, 3, 1)), (EIGHT, (1, 2, 3)), (EIGHT, (17, 0, 1)),
            (FAR_BALLOON, (0, 0, 1)), (FAR_BALLOON, (6, 0, 1)), (FAR_BALLOON, (14, 0, 1)), ((), (0, 0, 1)), ((None,), (0, 0, 1)),
        ):
            self.refuse("no train", layout, (), wrong)

    def test_no_turnout_is_told_ahead_of_no_train(self):
        self.refuse("no turnout", SIDING, (1,), (0, 1, 2))
        self.refuse("no turnout", SIDING, (9, 0), (77, 0, 1))
        self.refuse("no turnout", (), (0,), (0, 0, 0))


class Elsewhere(unittest.TestCase):
    def test_it_runs_the_same(self):
        for layout, motion in itertools.product((ROUND, SIDING, EIGHT, TWO_SIDINGS), ((5, -7, 11, 2, 6), (10 ** 20, 0, 0, 3, 1))):
            moved = put_elsewhere(layout, motion)
            for train in all_trains(layout):
                for thrown in choices(layout)[:4]:
                    self.assertEqual(step_train(moved, thrown, train), step_train(layout, thrown, train))


class Arguments(unittest.TestCase):
    def test_no_function_changes_them(self):
        layout, thrown, train = FAR_BALLOON, (1, 12), (1, 0, 2)
        for _ in range(2):
            self.assertEqual(len(trains_of(layout)), 28)
            self.assertEqual((facing_round(train), step_train(layout, thrown, train)), ((1, 2, 0), (8, 1, 0)))
            self.assertEqual((run_train(layout, thrown, train, 1), cycle(layout, thrown, train)), ((8, 1, 0), None))
        self.assertEqual((layout, thrown, train), (TRACKS["with gaps"], (1, 12), (1, 0, 2)))
