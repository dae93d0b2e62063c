import unittest

from railshut.errors import BadPiece
from railshut.surveys import survey
from tests.floors import along, some_layouts
from tests.model import HOME
from tests.tracks import (
    BALLOON, DUMBBELL, EIGHT, FAR_BALLOON, OVAL, RING, ROUND, SIDING, TRACKS, TWO_SIDINGS, UNEVEN, WYE, all_trains,
    choices, grown_layouts, ladder, ring_of_turnouts, stepped, turnouts,
)
from tests.variants import variants

SOME = tuple(layout for layout in tuple(TRACKS.values()) + tuple(some_layouts(30, seed=71)) + grown_layouts(20, 9) if len(turnouts(layout)) <= 5)


def row_by_trial(layout, thrown):
    """Each train is run until it runs off or has made more steps than there are trains; then it is on a cycle."""
    runs_off, cycles = 0, set()
    for train in all_trains(layout):
        here = train
        for _ in all_trains(layout):
            here = here and stepped(layout, thrown, here)
        if here is None:
            runs_off += 1
        else:
            cycle = [here]
            while stepped(layout, thrown, cycle[-1]) != here:
                cycle.append(stepped(layout, thrown, cycle[-1]))
            cycles.add(frozenset(cycle))
    return (thrown, runs_off, tuple(sorted(map(len, cycles))))


class Survey(unittest.TestCase):
    def test_without_turnouts(self):
        for layout, expected in (
            (RING, (((), 0, (8, 8)),)), (EIGHT, (((), 0, (18, 18)),)), ((), (((), 0, ()),)), ((None, None), (((), 0, ()),)),
            ((("S", HOME),), (((), 2, ()),)), ((None, ("X", HOME)), (((), 4, ()),)), (TRACKS["a row"], (((), 8, ()),)),
            (RING + (None, ("H", (50, 0, 0, 0, 0))), (((), 2, (8, 8)),)), (RING[:5] + (None,) + RING[6:], (((), 14, ()),)),
        ):
            self.assertEqual(survey(layout), expected, layout)

    def test_with_some(self):
        for layout, expected in (
            # What comes in from the straight goes round for ever; what goes round the other way comes out, or not.
            (ROUND, (((), 10, (8,)), ((0,), 2, (8, 8)))),
            (BALLOON, (((), 34, ()), ((0,), 34, ()))),
            ((("P", HOME),), (((), 4, ()), ((0,), 4, ()))),
            (OVAL, (((), 0, (20, 20)), ((0,), 0, (20, 20)), ((9,), 0, (20, 20)), ((0, 9), 0, (20, 20)))),
            # All have to be thrown for a train to go round by the end 0 of each; the other way it always does.
            (ring_of_turnouts(2), (((), 10, (8,)), ((0,), 10, (8,)), ((1,), 10, (8,)), ((0, 1), 2, (8, 8)))),
            (DUMBBELL, (((), 0, (22,)), ((0,), 0, (22,)), ((10,), 0, (22,)), ((0, 10), 0, (22,)))),
        ):
            self.assertEqual(survey(layout), expected, layout)

    def test_with_five(self):
        layout = ladder(3)
        self.assertEqual(turnouts(layout), [0, 1, 2, 4, 5])
        told = survey(layout)
        self.assertEqual([row[0] for row in told], choices(layout))
        self.assertEqual([row[0] for row in told][:9], [(), (0,), (1,), (2,), (4,), (5,), (0, 1), (0, 2), (0, 4)])
        self.assertEqual(told[-1][0], (0, 1, 2, 4, 5))
        self.assertEqual({row[1:] for row in told}, {(len(all_trains(layout)), ())})
        layout = (None,) + ring_of_turnouts(5)
        told = survey(layout)
        self.assertEqual([row[0] for row in told], choices(layout))
        self.assertEqual({row[2] for row in told[:-1]}, {(8,)})
        self.assertEqual(told[-1], ((1, 2, 3, 4, 5), 5, (8, 8)))

    def test_unlike_cycles_of_one_length_are_each_told(self):
        for layout, expected in (
            (RING + put_far(RING), (8, 8, 8, 8)), (RING + put_far(EIGHT[:9]), (8, 8)), (put_far(ROUND) + RING + (None,), (8, 8, 8)),
            # The short ones ahead, whichever trains they have.
            (along(HOME, "LLLLSLLLLS") + put_far(RING), (8, 8, 10, 10)), (put_far(RING) + along(HOME, "LLLLSLLLLS"), (8, 8, 10, 10)),
            (along(HOME, "LLLSLLLLSL") + put_far(ROUND), (8, 10, 10)),
        ):
            self.assertEqual(survey(layout)[0][2], expected)

    def test_beside_each_train_run(self):
        for layout in SOME:
            told = survey(layout)
            self.assertEqual(told, tuple(row_by_trial(layout, thrown) for thrown in choices(layout)), layout)
            self.assertIs(type(told), tuple)
            for row in told:
                self.assertEqual([type(part) for part in row], [tuple, int, tuple])
                self.assertLessEqual(row[1], len(all_trains(layout)))

    def test_the_bound(self):
        # 24 pieces, five of them turnouts, all others crossings: as many trains as there can be.
        layout = ladder(3)[:6] + tuple(("X", (0, 0, 50 * number, 0, 0)) for number in range(1, 19))
        self.assertEqual((len(layout), len(turnouts(layout)), len(all_trains(layout))), (24, 5, 94))
        told = survey(layout)
        self.assertEqual((len(told), {row[1:] for row in told}), (32, {(94, ())}))
        layout = ring_of_turnouts(5) + put_far(RING) + (("S", (0, 0, 90, 0, 0)),)
        self.assertEqual([row[2] for row in survey(layout)][-2:], [(8, 8, 8), (8, 8, 8, 8)])


def put_far(layout):
    return tuple(piece and (piece[0], (piece[1][0] + 70,) + piece[1][1:]) for piece in layout)


class Refused(unittest.TestCase):
    def test_more_than_five_turnouts(self):
        for layout in (
            ladder(4), ladder(10), ring_of_turnouts(6), (None,) + ring_of_turnouts(8), ladder(3) + (None, ("Q", (90, 0, 0, 0, 0))),
            WYE + put_far(WYE), TWO_SIDINGS + tuple(("P", (0, 0, 50 * number, 0, 0)) for number in (1, 2)),
        ):
            with self.assertRaises(BadPiece, msg=layout) as raised:
                survey(layout)
            self.assertEqual(raised.exception.reason, "too many turnouts")

    def test_just_five_are_taken(self):
        for layout in (ladder(3), ring_of_turnouts(5), TWO_SIDINGS + (("Q", (0, 0, 50, 0, 0)),), WYE + put_far(BALLOON[:1] + SIDING[9:])):
            self.assertEqual((len(turnouts(layout)), len(survey(layout))), (5, 32))
        # Turnouts that were taken away do not count, nor do crossings.
        layout = ladder(4)[:1] + (None, None) + ladder(4)[3:] + (("X", (90, 0, 0, 0, 0)),)
        self.assertEqual((len(turnouts(layout)), len(survey(layout))), (5, 32))


class ToldElsewhere(unittest.TestCase):
    def test_surveys_are_the_same(self):
        for layout in (ROUND, BALLOON, TWO_SIDINGS, UNEVEN, WYE, OVAL, DUMBBELL, FAR_BALLOON, EIGHT, RING, ladder(3), ring_of_turnouts(4)):
            told = survey(layout)
            for variant in variants(layout):
                other = survey(variant.layout)
                expected = [(variant.numbers(thrown), runs_off, rounds) for thrown, runs_off, rounds in told]
                self.assertEqual(sorted(other), sorted(expected), variant.name)
                self.assertEqual([row[0] for row in other], choices(variant.layout))
                if not variant.name.startswith("numbers"):
                    self.assertEqual(other, told, variant.name)


class Arguments(unittest.TestCase):
    def test_no_function_changes_them(self):
        layout = FAR_BALLOON
        self.assertEqual(survey(layout), survey(layout))
        self.assertEqual(layout, TRACKS["with gaps"])
