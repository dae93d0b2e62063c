import unittest

from railshut.errors import BadTrain
from railshut.meetings import first_meeting
from tests.floors import along, some_layouts
from tests.model import HOME
from tests.tracks import (
    BALLOON, CROSSED, DUMBBELL, EIGHT, FAR_BALLOON, OVAL, RING, ROUND, SIDING, TRACKS, TWO_SIDINGS, UNEVEN, WYE,
    all_trains, choices, grown_layouts, ladder, some_pairs, stepped,
)
from tests.variants import variants

SOME = tuple(TRACKS.values()) + tuple(some_layouts(20, seed=83)) + grown_layouts(10, 11)
ROW = along(HOME, "SLRHSS")


def meeting_by_steps(layout, thrown, one, other, steps):
    """All places of both are told first, step by step; then it is looked for where they meet."""
    places = [(one, other)]
    while len(places) <= steps and None not in places[-1]:
        places.append(tuple(stepped(layout, thrown, train) for train in places[-1]))
    for many, (first, second) in enumerate(places):
        if first is None or second is None:
            return None
        if first[0] == second[0]:
            return many
        if many:
            before = places[many - 1]
            if (first[0], second[0]) == (before[1][0], before[0][0]) and first[0] != second[0]:
                return many
    return None


class FirstMeeting(unittest.TestCase):
    def test_on_one_piece(self):
        for layout, thrown, one, other, expected in (
            (RING, (), (0, 0, 1), (4, 1, 0), 2), (RING, (), (0, 0, 1), (2, 1, 0), 1), (RING, (), (0, 0, 1), (6, 1, 0), 3),
            (RING, (), (5, 1, 0), (3, 0, 1), 1), (RING, (), (3, 0, 1), (3, 0, 1), 0), (RING, (), (3, 0, 1), (3, 1, 0), 0),
            (ROW, (), (0, 0, 1), (4, 1, 0), 2), (ROUND, (), (8, 1, 0), (7, 0, 1), 1), (ROUND, (), (8, 1, 0), (0, 2, 0), None),
            # On one crossing, though each on its own way over it.
            (EIGHT, (), (8, 0, 1), (16, 0, 1), 1), (EIGHT, (), (0, 0, 1), (0, 2, 3), 0), (EIGHT, (), (0, 3, 2), (0, 2, 3), 0),
            # On one turnout, from its two branches.
            (SIDING, (), (4, 1, 0), (8, 1, 0), 1), (SIDING, (0,), (3, 0, 1), (7, 0, 1), 2), (SIDING, (), (0, 0, 1), (0, 2, 0), 0),
        ):
            self.assertEqual(first_meeting(layout, thrown, one, other, 200), expected, (one, other))
            self.assertEqual(first_meeting(layout, thrown, other, one, 200), expected, (one, other))

    def test_passing_through_each_other(self):
        for layout, thrown, one, other, expected in (
            (RING, (), (0, 0, 1), (1, 1, 0), 1), (RING, (), (0, 0, 1), (3, 1, 0), 2), (RING, (), (7, 0, 1), (0, 1, 0), 1),
            (along(HOME, "SLLHSS"), (), (0, 0, 1), (5, 1, 0), 3), (RING, (), (0, 0, 1), (7, 1, 0), 4),
            (ROUND, (), (8, 1, 0), (0, 0, 1), 1), (ROUND, (), (7, 0, 1), (0, 2, 0), 1), (EIGHT, (), (8, 0, 1), (0, 3, 2), 1),
        ):
            self.assertEqual(first_meeting(layout, thrown, one, other, 200), expected, (one, other))
            self.assertEqual(first_meeting(layout, thrown, other, one, 200), expected, (one, other))

    def test_none_because_one_runs_off(self):
        for layout, thrown, one, other in (
            (ROW, (), (0, 1, 0), (1, 1, 0)), (ROW, (), (0, 0, 1), (1, 0, 1)), (ROW, (), (5, 0, 1), (0, 0, 1)), (ROW, (), (0, 1, 0), (5, 0, 1)),
            # A step later they would be on one piece, if the other one had not run off then.
            (ROW, (), (5, 0, 1), (4, 0, 1)), (ROUND, (), (8, 0, 1), (0, 0, 1)), (ROUND, (), (8, 0, 1), (7, 0, 1)),
        ):
            for steps in (0, 1, 2, 199, 200):
                self.assertIsNone(first_meeting(layout, thrown, one, other, steps), (one, other))
                self.assertIsNone(first_meeting(layout, thrown, other, one, steps), (one, other))

    def test_a_meeting_on_the_last_piece_ahead_of_running_off(self):
        layout = along(HOME, "SSS")
        self.assertEqual(first_meeting(layout, (), (1, 0, 1), (2, 1, 0), 9), 1)
        self.assertEqual(first_meeting(layout, (), (0, 0, 1), (2, 1, 0), 9), 1)
        self.assertEqual(first_meeting(layout, (), (2, 0, 1), (2, 1, 0), 9), 0)

    def test_none_because_they_never_meet(self):
        for layout, thrown, one, other in (
            (RING, (), (0, 0, 1), (1, 0, 1)), (RING, (), (0, 0, 1), (4, 0, 1)), (RING + FAR_RING, (), (0, 0, 1), (8, 1, 0)),
            (OVAL, (), (0, 0, 1), (3, 0, 1)), (ROUND, (0,), (1, 0, 1), (4, 0, 1)),
        ):
            for steps in (0, 1, 8, 200):
                self.assertIsNone(first_meeting(layout, thrown, one, other, steps))

    def test_the_steps_are_too_few(self):
        for layout, one, other, first in ((RING, (0, 0, 1), (4, 1, 0), 2), (RING, (0, 0, 1), (7, 1, 0), 4), (RING, (0, 0, 1), (1, 1, 0), 1)):
            for steps in range(12):
                expected = first if steps >= first else None
                self.assertEqual(first_meeting(layout, (), one, other, steps), expected)
                self.assertEqual(first_meeting(layout, (), one, one, steps), 0)

    def test_what_is_thrown_counts(self):
        # Over unlike ways of as many pieces they meet at the end; on one way they follow each other.
        layout = UNEVEN + (("S", (-2, 0, 0, 0, 0)),)
        for thrown, one, other, expected in (
            ((), (14, 0, 1), (13, 1, 0), 5), ((0,), (14, 0, 1), (13, 1, 0), None), ((12,), (14, 0, 1), (13, 1, 0), None), ((0, 12), (14, 0, 1), (13, 1, 0), 4),
        ):
            told = first_meeting(layout, thrown, one, other, 200)
            self.assertEqual(told, meeting_by_steps(layout, thrown, one, other, 200))
            if expected is not None:
                self.assertEqual(told, expected)

    def test_beside_places_told_step_by_step(self):
        met = set()
        for layout in SOME:
            for thrown in choices(layout)[:3] + choices(layout)[-1:]:
                for one, other in some_pairs(layout, 150):
                    told = first_meeting(layout, thrown, one, other, 30)
                    self.assertEqual(told, meeting_by_steps(layout, thrown, one, other, 30), (layout, thrown, one, other))
                    met.add(told)
        self.assertGreater(len(met), 8)

    def test_behind_several_rounds(self):
        # They come to a crossing at the same time only in the fifth and the seventh round.
        self.assertEqual(first_meeting(CROSSED, (), (2, 0, 1), (17, 1, 0), 200), 69)
        self.assertEqual(first_meeting(CROSSED, (), (2, 0, 1), (17, 1, 0), 69), 69)
        self.assertIsNone(first_meeting(CROSSED, (), (2, 0, 1), (17, 1, 0), 68))
        for one, other in some_pairs(CROSSED, 150):
            self.assertEqual(first_meeting(CROSSED, (), one, other, 200), meeting_by_steps(CROSSED, (), one, other, 200))

    def test_the_bound(self):
        layout = RING + FAR_RING + (("S", (0, 0, 90, 0, 0)),)
        self.assertIsNone(first_meeting(layout, (), (0, 0, 1), (8, 0, 1), 200))
        self.assertIsNone(first_meeting(layout, (), (0, 0, 1), (16, 0, 1), 200))
        layout = along(HOME, "S" * 24)
        self.assertEqual(first_meeting(layout, (), (0, 0, 1), (23, 1, 0), 200), 12)
        self.assertEqual(first_meeting(layout, (), (0, 0, 1), (23, 1, 0), 12), 12)
        self.assertIsNone(first_meeting(layout, (), (0, 0, 1), (23, 1, 0), 11))
        self.assertEqual(first_meeting(layout, (), (0, 0, 1), (22, 1, 0), 200), 11)


FAR_RING = tuple((kind, (pose[0] + 60,) + pose[1:]) for kind, pose in RING)


class Refused(unittest.TestCase):
    def refuse(self, reason, layout, thrown, one, other):
        for steps in (0, 1, 200):
            with self.assertRaises(BadTrain, msg=(thrown, one, other)) as raised:
                first_meeting(layout, thrown, one, other, steps)
            self.assertEqual(raised.exception.reason, reason, (thrown, one, other))

    def test_no_turnout(self):
        for thrown in ((0, 0), (9, 0), (1,), (0, 1), (-1,), (10,), (99,), (0, 9, 9)):
            self.refuse("no turnout", SIDING, thrown, (0, 0, 1), (1, 1, 0))
        self.refuse("no turnout", RING, (0,), (0, 0, 1), (0, 0, 1))
        self.refuse("no turnout", FAR_BALLOON, (0,), (1, 0, 1), (2, 0, 1))

    def test_no_train(self):
        for wrong in ((0, 1, 2), (0, 0, 3), (1, 1, 1), (10, 0, 1), (-1, 0, 1), (0, 0, 0)):
            for one, other in ((wrong, (1, 0, 1)), ((1, 0, 1), wrong), (wrong, wrong), (wrong, (wrong[0], 0, 1)), ((0, 0, 1), wrong)):
                self.refuse("no train", SIDING, (0,), one, other)
        self.refuse("no train", (), (), (0, 0, 1), (0, 0, 1))
        self.refuse("no train", FAR_BALLOON, (), (0, 0, 1), (0, 0, 1))

    def test_no_turnout_is_told_ahead_of_no_train(self):
        self.refuse("no turnout", SIDING, (1,), (77, 0, 1), (0, 0, 1))
        self.refuse("no turnout", SIDING, (1,), (0, 0, 1), (0, 0, 0))


class ToldElsewhere(unittest.TestCase):
    def test_meetings_are_the_same(self):
        for layout in (ROUND, BALLOON, TWO_SIDINGS, UNEVEN, WYE, OVAL, DUMBBELL, FAR_BALLOON, EIGHT, ladder(3)):
            for variant in variants(layout):
                for one, other in some_pairs(layout, 25):
                    for thrown in choices(layout)[:2] + choices(layout)[-1:]:
                        told = first_meeting(variant.layout, variant.numbers(thrown), variant.train(one), variant.train(other), 40)
                        self.assertEqual(told, first_meeting(layout, thrown, one, other, 40), variant.name)

    def test_which_one_is_told_first_does_not_matter(self):
        for layout in (RING, ROUND, WYE, DUMBBELL):
            for one, other in some_pairs(layout, 60):
                self.assertEqual(first_meeting(layout, (), one, other, 20), first_meeting(layout, (), other, one, 20))


class Arguments(unittest.TestCase):
    def test_no_function_changes_them(self):
        layout, thrown, one, other = FAR_BALLOON, (1, 12), (1, 0, 2), (12, 0, 2)
        told = [first_meeting(layout, thrown, one, other, 50) for _ in range(2)]
        self.assertEqual(told[0], told[1])
        self.assertEqual((layout, thrown, one, other), (TRACKS["with gaps"], (1, 12), (1, 0, 2), (12, 0, 2)))
        self.assertEqual(len(all_trains(layout)), 28)
