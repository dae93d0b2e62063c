import unittest

from railshut.errors import BadPiece, BadTrain, Collision
from railshut.runs import Run
from tests.floors import along, some_layouts
from tests.model import HOME
from tests.told_runs import ToldRun, led, some_deeds, told_of
from tests.tracks import (
    BALLOON, DUMBBELL, EIGHT, FAR_BALLOON, OVAL, RING, ROUND, SIDING, TRACKS, TWO_SIDINGS, UNEVEN, WYE, all_trains,
    grown_layouts, ladder, ring_of_turnouts,
)
from tests.variants import variants

SOME = tuple(TRACKS.values()) + tuple(some_layouts(12, seed=101)) + grown_layouts(12, 15) + (ladder(10),)


def run_with(layout, *trains, thrown=()):
    run = Run(layout)
    for number in thrown:
        run.toggle(number)
    for train in trains:
        run.add(train)
    return run


class Case(unittest.TestCase):
    def refuse(self, error, reason, deed, *told):
        with self.assertRaises(error, msg=told) as raised:
            deed(*told)
        self.assertIs(type(raised.exception), error)
        self.assertEqual(raised.exception.pieces if error is Collision else raised.exception.reason, reason, told)


class Beginning(Case):
    def test_a_new_run(self):
        for layout in (RING, SIDING, (), (None,)):
            run = Run(layout)
            self.assertEqual(told_of(run), ((), (), 0))
            self.assertEqual((run.journal(), run.undo(), run.forecast(0), run.forecast(3)), ("", False, ((),), ((),) * 4))
            self.assertEqual((run.tick(), run.clock(), run.journal(), run.undo(), run.clock()), (0, 1, "tick\n", True, 0))

    def test_runs_do_not_share_what_they_are(self):
        one, other = Run(SIDING), Run(SIDING)
        one.add((0, 0, 1))
        one.toggle(9)
        one.tick()
        self.assertEqual((told_of(other), other.journal(), other.undo()), (((), (), 0), "", False))


class Adding(Case):
    def test_numbers(self):
        run = Run(RING)
        self.assertEqual([run.add(train) for train in ((4, 0, 1), (0, 1, 0), (2, 0, 1))], [0, 1, 2])
        self.assertEqual(run.trains(), ((4, 0, 1), (0, 1, 0), (2, 0, 1)))
        self.assertEqual(run.journal(), "add 4 0 1\nadd 0 1 0\nadd 2 0 1\n")
        self.assertEqual((run.undo(), run.add((7, 0, 1)), run.trains()[2]), (True, 2, (7, 0, 1)))

    def test_refused_with_the_first_reason(self):
        run = run_with(SIDING, (0, 0, 1), (3, 0, 1))
        for wrong in ((0, 1, 2), (0, 0, 3), (1, 1, 1), (10, 0, 1), (-1, 0, 1), (0, 0, 0), (3, 0, 2), (-10, 0, 1)):
            self.refuse(BadTrain, "no train", run.add, wrong)
        for train in ((0, 0, 1), (0, 0, 2), (0, 2, 0), (3, 1, 0)):
            self.refuse(BadTrain, "occupied", run.add, train)
        self.assertEqual((run.trains(), run.journal()), (((0, 0, 1), (3, 0, 1)), "add 0 0 1\nadd 3 0 1\n"))
        self.assertEqual(run.add((9, 1, 0)), 2)
        # With three trains it is too many that is told ahead of occupied, but no train ahead of that.
        for train in ((0, 0, 1), (1, 0, 1), (9, 2, 0)):
            self.refuse(BadTrain, "too many trains", run.add, train)
        for wrong in ((0, 1, 2), (10, 0, 1), (0, 0, 0)):
            self.refuse(BadTrain, "no train", run.add, wrong)
        self.assertEqual((run.trains(), run.clock()), (((0, 0, 1), (3, 0, 1), (9, 1, 0)), 0))
        self.refuse(BadTrain, "no train", Run(FAR_BALLOON).add, (0, 0, 1))
        self.refuse(BadTrain, "no train", Run(()).add, (0, 0, 1))

    def test_refused_ones_cannot_be_undone(self):
        run = run_with(RING, (0, 0, 1))
        self.refuse(BadTrain, "occupied", run.add, (0, 0, 1))
        self.refuse(BadTrain, "no train", run.add, (8, 0, 1))
        self.assertEqual((run.undo(), run.trains(), run.undo()), (True, (), False))


class Toggling(Case):
    def test_to_and_fro(self):
        run = Run(TWO_SIDINGS)
        self.assertEqual([run.toggle(number) for number in (10, 0, 19, 10, 0, 9, 10)], [True, True, True, False, False, True, True])
        self.assertEqual(run.thrown(), (9, 10, 19))
        self.assertEqual(run.journal(), "toggle 10\ntoggle 0\ntoggle 19\ntoggle 10\ntoggle 0\ntoggle 9\ntoggle 10\n")
        self.assertEqual((run.clock(), run.undo(), run.thrown(), run.undo(), run.thrown()), (0, True, (9, 19), True, (19,)))

    def test_refused_with_the_first_reason(self):
        run = run_with(SIDING, (0, 0, 2), (3, 0, 1), (9, 2, 0))
        for number in (1, 3, 8, 10, 99, -1, -10, 24):
            self.refuse(BadPiece, "no turnout", run.toggle, number)
        for number in (0, 9):
            self.refuse(BadPiece, "occupied", run.toggle, number)
        self.assertEqual((run.thrown(), run.journal()), ((), "add 0 0 2\nadd 3 0 1\nadd 9 2 0\n"))
        run.tick()
        self.assertEqual((run.toggle(0), run.thrown()), (True, (0,)))
        run = run_with(EIGHT, (0, 2, 3))
        self.refuse(BadPiece, "no turnout", run.toggle, 0)
        self.refuse(BadPiece, "no turnout", Run(FAR_BALLOON).toggle, 0)
        self.refuse(BadPiece, "no turnout", Run(()).toggle, 0)

    def test_a_thrown_turnout_that_is_occupied_stays_thrown(self):
        run = run_with(ROUND, (7, 0, 1), thrown=(0,))
        self.assertEqual((run.tick(), run.trains()), (1, ((0, 0, 2),)))
        self.refuse(BadPiece, "occupied", run.toggle, 0)
        self.assertEqual((run.thrown(), run.tick(), run.trains(), run.toggle(0)), ((0,), 1, ((1, 0, 1),), False))


class Ticking(Case):
    def test_each_train_makes_a_step(self):
        run = run_with(RING, (0, 0, 1), (3, 0, 1), (5, 0, 1))
        self.assertEqual((run.tick(), run.trains(), run.clock()), (3, ((1, 0, 1), (4, 0, 1), (6, 0, 1)), 1))
        run = run_with(SIDING, (3, 0, 1), (0, 0, 2), thrown=(0,))
        self.assertEqual([run.tick() for _ in range(4)], [2, 2, 1, 1])
        self.assertEqual((run.trains(), run.clock()), (((9, 1, 0), (8, 1, 0)), 4))
        self.refuse(Collision, (9,), run.tick)

    def test_one_that_would_run_off_stays(self):
        row = along(HOME, "SSSS")
        run = run_with(row, (2, 0, 1), (0, 1, 0))
        told = [(run.tick(), run.trains(), run.clock()) for _ in range(3)]
        self.assertEqual(told, [(1, ((3, 0, 1), (0, 1, 0)), 1), (0, ((3, 0, 1), (0, 1, 0)), 2), (0, ((3, 0, 1), (0, 1, 0)), 3)])
        self.assertEqual(run.journal(), "add 2 0 1\nadd 0 1 0\ntick\ntick\ntick\n")

    def test_trains_that_follow_each_other(self):
        run = run_with(RING, (0, 0, 1), (1, 0, 1), (2, 0, 1))
        self.assertEqual([run.tick() for _ in range(20)], [3] * 20)
        self.assertEqual((run.trains(), run.clock()), (((4, 0, 1), (5, 0, 1), (6, 0, 1)), 20))

    def test_collisions_and_their_pieces(self):
        row = along(HOME, "SSSSSS")
        for layout, trains, pieces in (
            # On one piece.
            (RING, ((0, 0, 1), (2, 1, 0)), (1,)), (RING, ((7, 0, 1), (1, 1, 0)), (0,)), (EIGHT, ((8, 0, 1), (16, 0, 1)), (0,)),
            # Through each other.
            (RING, ((0, 0, 1), (1, 1, 0)), (0, 1)), (RING, ((0, 1, 0), (7, 0, 1)), (0, 7)), (RING, ((7, 0, 1), (0, 1, 0)), (0, 7)),
            # Onto one that would run off and stays.
            (row, ((4, 0, 1), (5, 0, 1)), (5,)), (row, ((0, 1, 0), (1, 1, 0)), (0,)), (row, ((1, 1, 0), (0, 1, 0), (4, 0, 1)), (0,)),
            # Three trains: two that collide, the third one not; one collides with both others; all on one piece.
            (RING, ((0, 0, 1), (5, 0, 1), (1, 1, 0)), (0, 1)), (RING, ((2, 1, 0), (0, 0, 1), (6, 0, 1)), (1,)),
            (row, ((0, 0, 1), (1, 1, 0), (2, 1, 0)), (0, 1)), (row, ((1, 0, 1), (2, 1, 0), (3, 1, 0)), (1, 2)),
            (row, ((1, 0, 1), (3, 1, 0), (2, 1, 0)), (1, 2)), (row, ((3, 0, 1), (4, 0, 1), (5, 0, 1)), (5,)),
            (row, ((3, 0, 1), (5, 1, 0), (4, 1, 0)), (3, 4)), (row, ((5, 0, 1), (3, 0, 1), (4, 0, 1)), (5,)),
            (row, ((0, 1, 0), (1, 1, 0), (5, 0, 1)), (0,)), (SIDING, ((4, 1, 0), (8, 1, 0)), (9,)), (ROUND, ((8, 1, 0), (7, 0, 1)), (0,)),
        ):
            run = run_with(layout, *trains)
            before = told_of(run) + (run.journal(),)
            self.refuse(Collision, pieces, run.tick)
            self.refuse(Collision, pieces, run.tick)
            # Nothing has changed.
            self.assertEqual(told_of(run) + (run.journal(),), before)
            self.assertEqual(run.forecast(5), (tuple(train[0] for train in trains),))
            self.assertEqual([run.undo() for _ in trains] + [run.undo()], [True] * len(trains) + [False])

    def test_three_trains_onto_one_crossing(self):
        layout = (("X", HOME),) + along((2, 0, 0, 0, 0), "S") + along((1, 0, 1, 0, 2), "S") + (("S", (-2, 0, 0, 0, 0)),)
        run = run_with(layout, (1, 1, 0), (2, 1, 0), (3, 0, 1))
        self.refuse(Collision, (0,), run.tick)
        # On its two ways over it they would be on one piece as well.
        run = run_with(layout, (1, 1, 0), (2, 1, 0))
        self.refuse(Collision, (0,), run.tick)

    def test_what_is_thrown_counts(self):
        run = run_with(ROUND, (7, 0, 1))
        self.assertEqual(run.forecast(3), ((7,), (0,), (8,), (8,)))
        self.assertEqual((run.toggle(0), run.forecast(3)), (True, ((7,), (0,), (1,), (2,))))


class Undoing(Case):
    def test_adding_toggling_and_ticks(self):
        run = run_with(SIDING, (0, 0, 1), thrown=(9,))
        stages = [told_of(run)]
        for deed, told in (("tick", ()), ("toggle", (0,)), ("tick", ()), ("add", ((0, 1, 0),)), ("toggle", (9,)), ("tick", ())):
            getattr(run, deed)(*told)
            stages.append(told_of(run))
        self.assertEqual(len(set(stages)), 7)
        for stage in stages[-2::-1]:
            self.assertIs(run.undo(), True)
            self.assertEqual(told_of(run), stage)
        self.assertEqual([run.undo(), run.undo(), run.undo()], [True, True, False])
        self.assertEqual((told_of(run), run.journal().count("undo\n")), (((), (), 0), 8))
        self.assertIs(run.undo(), False)
        self.assertEqual(run.journal().count("undo\n"), 8)

    def test_sixty_are_kept(self):
        for many in (59, 60, 61, 100):
            run = Run(RING)
            run.add((0, 0, 1))
            for _ in range(many - 1):
                run.tick()
            undone = 0
            while run.undo():
                undone += 1
            self.assertEqual(undone, min(many, 60))
            self.assertEqual((run.clock(), run.trains()), (0, ()) if many <= 60 else (many - 61, (((many - 61) % 8, 0, 1),)))
            self.assertIs(run.undo(), False)

    def test_what_is_undone_makes_room_again(self):
        run = Run(RING)
        for _ in range(70):
            run.tick()
        self.assertEqual([run.undo() for _ in range(10)], [True] * 10)
        for _ in range(5):
            run.tick()
        self.assertEqual([run.undo() for _ in range(56)], [True] * 55 + [False])
        self.assertEqual(run.clock(), 10)

    def test_a_refused_deed_forgets_nothing(self):
        run = run_with(RING, (0, 0, 1), (1, 1, 0))
        for deed, told, reason in (("tick", (), (0, 1)), ("toggle", (0,), "no turnout"), ("add", ((0, 0, 1),), "occupied")):
            self.assertEqual([led(run, deed, told) for _ in range(80)], [reason] * 80)
        self.assertEqual([run.undo(), run.undo(), run.undo()], [True, True, False])


class Led(Case):
    def test_by_many_deeds(self):
        refused = set()
        for at, layout in enumerate(SOME):
            for seed in range(3):
                run, told = Run(layout), ToldRun(layout)
                for deed, words in some_deeds(layout, 150, 1000 * at + seed):
                    answer = led(run, deed, words)
                    self.assertEqual(answer, getattr(told, deed)(*words), (layout, deed, words))
                    self.assertEqual(told_of(run), told.now())
                    self.assertEqual(run.journal(), "".join(told.lines))
                    refused.add(answer if isinstance(answer, str) else type(answer))
                stages = [told.now()]
                while told.undo():
                    self.assertIs(run.undo(), True)
                    self.assertEqual(told_of(run), told.now())
                    stages.append(told.now())
                self.assertIs(run.undo(), False)
                self.assertEqual(run.journal(), "".join(told.lines))
        self.assertEqual(refused, {"no train", "too many trains", "occupied", "no turnout", int, bool, tuple})

    def test_no_two_trains_are_ever_on_one_piece(self):
        for layout in SOME:
            run = Run(layout)
            for deed, words in some_deeds(layout, 120, 7, ticks=0.8):
                led(run, deed, words)
                pieces = [train[0] for train in run.trains()]
                self.assertEqual(len(set(pieces)), len(pieces))


class Foretold(Case):
    def test_told_ones(self):
        run = run_with(RING, (0, 0, 1), (4, 1, 0))
        self.assertEqual(run.forecast(0), ((0, 4),))
        self.assertEqual(run.forecast(1), ((0, 4), (1, 3)))
        for most in (1, 2, 3, 200):
            # Behind the second tick both would be on the piece 2.
            self.assertEqual(run.forecast(most), ((0, 4), (1, 3)))
        run = run_with(RING, (0, 0, 1), (7, 0, 1), (6, 0, 1))
        self.assertEqual(run.forecast(200), tuple(tuple((at + first) % 8 for first in (0, 7, 6)) for at in range(201)))

    def test_it_comes_true_and_changes_nothing(self):
        ended, whole = 0, 0
        for at, layout in enumerate(SOME):
            run = Run(layout)
            for deed, words in some_deeds(layout, 60, 500 + at, ticks=0.3):
                led(run, deed, words)
                before = told_of(run) + (run.journal(),)
                told = run.forecast(9)
                self.assertEqual(told_of(run) + (run.journal(),), before)
                self.assertEqual(tuple(run.forecast(few) for few in range(10)), tuple(told[:few + 1] for few in range(10)))
                other = run.branch()
                for many, pieces in enumerate(told):
                    self.assertEqual(tuple(train[0] for train in other.trains()), pieces)
                    if many < len(told) - 1:
                        other.tick()
                if len(told) < 10:
                    with self.assertRaises(Collision):
                        other.tick()
                    ended += 1
                else:
                    whole += 1
                self.assertEqual(told_of(run) + (run.journal(),), before)
        self.assertGreater(ended, 50)
        self.assertGreater(whole, 500)


class Branches(Case):
    def test_it_is_as_the_run_is(self):
        run = run_with(SIDING, (0, 0, 1), (3, 0, 1), thrown=(0, 0, 9))
        run.tick()
        other = run.branch()
        self.assertIsInstance(other, Run)
        self.assertIsNot(other, run)
        self.assertEqual(told_of(other), told_of(run))
        self.assertEqual((other.journal(), other.undo(), other.journal()), ("", False, ""))
        self.assertEqual(other.forecast(20), run.forecast(20))

    def test_neither_changes_the_other_one(self):
        for at, layout in enumerate(SOME):
            run = Run(layout)
            for deed, words in some_deeds(layout, 40, at):
                led(run, deed, words)
            before = told_of(run) + (run.journal(), run.forecast(5))
            other = run.branch()
            there = ToldRun(layout)
            there.stages = [told_of(run)]
            for deed, words in some_deeds(layout, 40, 99 - at):
                self.assertEqual(led(other, deed, words), getattr(there, deed)(*words))
            self.assertEqual((told_of(other), other.journal()), (there.now(), "".join(there.lines)))
            self.assertEqual(told_of(run) + (run.journal(), run.forecast(5)), before)
            after = told_of(other) + (other.journal(),)
            while run.undo():
                pass
            self.assertEqual(told_of(other) + (other.journal(),), after)

    def test_a_branch_of_a_branch(self):
        run = run_with(RING, (0, 0, 1))
        other = run.branch()
        other.tick()
        third = other.branch()
        self.assertEqual((third.undo(), third.clock(), third.trains(), other.journal()), (False, 1, ((1, 0, 1),), "tick\n"))
        self.assertEqual((third.add((0, 0, 1)), other.add((5, 0, 1)), run.trains()), (1, 1, ((0, 0, 1),)))


class ToldElsewhere(Case):
    def test_runs_are_the_same(self):
        for layout in (ROUND, BALLOON, WYE, OVAL, DUMBBELL, FAR_BALLOON, EIGHT, UNEVEN, ladder(3), ring_of_turnouts(4)):
            for variant in variants(layout):
                run, other = Run(layout), Run(variant.layout)
                for deed, words in some_deeds(layout, 40, len(layout)):
                    if deed == "add" and words[0] not in all_trains(layout) or deed == "toggle" and words[0] not in range(len(layout)):
                        continue
                    there = tuple(map(variant.train if deed == "add" else variant.number, words))
                    told = led(run, deed, words)
                    expected = variant.numbers(told) if isinstance(told, tuple) else told
                    self.assertEqual(led(other, deed, there), expected, (variant.name, deed, words))
                self.assertEqual(other.trains(), tuple(map(variant.train, run.trains())))
                self.assertEqual((other.thrown(), other.clock()), (variant.numbers(run.thrown()), run.clock()))


class Arguments(Case):
    def test_nothing_is_changed(self):
        layout, train = FAR_BALLOON, (1, 0, 2)
        run = Run(layout)
        run.add(train)
        run.toggle(12)
        before = run.trains(), run.thrown(), run.journal()
        run.tick()
        run.undo()
        run.tick()
        self.assertEqual(before, (((1, 0, 2),), (12,), "add 1 0 2\ntoggle 12\n"))
        self.assertEqual((layout, train), (TRACKS["with gaps"], (1, 0, 2)))
