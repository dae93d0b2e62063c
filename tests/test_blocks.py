import itertools
import random
import unittest

from railshut.blocks import BlockRun, are_blocks, block_of
from railshut.errors import BadPiece, BadTrain
from tests.floors import along, some_layouts
from tests.model import HOME
from tests.told_runs import ToldRun, led, some_deeds, told_of
from tests.tracks import (
    BALLOON, DUMBBELL, EIGHT, FAR_BALLOON, OVAL, RING, ROUND, SIDING, TRACKS, TWO_SIDINGS, UNEVEN, WYE, all_trains,
    choices, free, grown_layouts, ladder, ring_of_turnouts, stepped, turnouts,
)
from tests.variants import variants

SOME = tuple(TRACKS.values()) + tuple(some_layouts(12, seed=149)) + grown_layouts(8, 17, 18) + (ladder(10),)
ROW = along(HOME, "SSSSSS")


def some_blocks(layout, seed):
    """Right blocks picked here and there."""
    pick = random.Random(seed)
    pieces = [number for number, piece in enumerate(layout) if piece is not None]
    pick.shuffle(pieces)
    blocks = []
    while pieces and pick.random() < 0.85:
        many = pick.randint(1, 4)
        blocks.append(tuple(sorted(pieces[:many])))
        pieces = pieces[many:]
    return tuple(sorted(blocks))


def run_with(layout, blocks, *trains, thrown=()):
    run = BlockRun(layout, blocks)
    for number in thrown:
        run.toggle(number)
    for train in trains:
        run.add(train)
    return run


class AreBlocks(unittest.TestCase):
    def judge(self, expected, layout, *several):
        for blocks in several:
            self.assertIs(are_blocks(layout, blocks), expected, blocks)

    def test_right_ones(self):
        self.judge(
            True, RING, (), ((0,),), ((7,),), ((0, 1), (2, 3)), ((0, 7), (1, 6), (2, 5)), ((0, 2, 4, 6), (1, 3, 5, 7)), (tuple(range(8)),),
            tuple((number,) for number in range(8)), ((3, 7), (4, 5)), ((1, 2, 3), (4,), (6, 7)),
        )
        self.judge(True, FAR_BALLOON, (), ((1, 5), (2, 3), (12, 13)), ((8, 9),))
        self.judge(True, (), ())
        self.judge(True, (None, None), ())
        for at, layout in enumerate(SOME):
            self.judge(True, layout, some_blocks(layout, at), some_blocks(layout, 99 - at))

    def test_wrong_ones(self):
        self.judge(
            False, RING, ((),), ((), (0,)), ((0,), ()), ((1, 0),), ((0, 0),), ((0, 1, 1),), ((0, 1), (1, 2)), ((0, 1), (0, 1)), ((2, 3), (0, 1)),
            ((0, 2), (3,), (1,)), ((0, 1), (2, 1)), ((0, 8),), ((8,),), ((-1, 0),), ((-1,),), ((99,),), ((0, 3, 2),), ((0,), (0,)), ((7,), (0,)),
            tuple((number,) for number in range(9)), ((0, 1), (3, 2)), (tuple(range(8)), (8,)), ((5, 6), (4, 7)),
        )
        # Pieces that were taken away are none.
        self.judge(False, FAR_BALLOON, ((0,),), ((1, 6),), ((1, 2), (6, 7)), ((14,),), ((5, 7, 8),))
        self.judge(False, (), ((0,),), ((),))
        self.judge(False, (None,), ((0,),), ((),))

    def test_all_pairs_of_blocks_of_a_small_layout(self):
        layout = along(HOME, "SS") + (None, ("S", (50, 0, 0, 0, 0)))
        worths = [()] + [block for many in (1, 2, 3) for block in itertools.product((0, 1, 2, 3), repeat=many)]
        for blocks in [(one,) for one in worths] + list(itertools.product(worths, repeat=2)):
            told = [piece for block in blocks for piece in block]
            right = (
                all(block and list(block) == sorted(set(block)) for block in blocks) and set(told) <= {0, 1, 3}
                and len(set(told)) == len(told) and list(blocks) == sorted(blocks)
            )
            self.judge(right, layout, blocks)

    def test_other_shapes(self):
        self.judge(
            False, RING, [], [(0, 1)], ([0, 1],), ({0, 1},), {(0, 1)}, {}, {(0, 1): True}, (0, 1), (0,), ((0, 1), 2), ((0, (1,)),), (((0, 1),),),
            ((0, True),), ((False, 1),), ((0.0, 1),), ((0, 1.0),), (("0", "1"),), ("01",), ((0, None),), (None,), (range(2),), ((0, 1), []), iter(((0, 1),)),
            "0 1", b"\x00\x01", ("blocks", ((0, 1),)), frozenset({(0, 1)}),
        )
        self.judge(False, along(HOME, "SS"), ((0, True),), ((False,),), ((False, True),))

    def test_whatever_they_are(self):
        class NotToBeCompared:
            def __eq__(self, other):
                raise RuntimeError

        odd, deep = NotToBeCompared(), (0,)
        for _ in range(5000):
            deep = (deep,)
        for worth in (
            None, -1, 10, True, False, 1.5, float("nan"), "", "blocks", b"", [], {}, set(), object(), odd, deep, len, range(3), (None,), ((),), (odd,),
            [[[]]], 10 ** 500, frozenset(), ..., lambda: 0,
        ):
            self.judge(False, SIDING, worth, (worth,), (worth, worth), ((0, 1), worth), (worth, (0, 1)), ((worth,),), ((0, worth),), ((worth, 0),))
            with self.assertRaises(BadPiece) as raised:
                BlockRun(SIDING, (worth,))
            self.assertEqual(raised.exception.reason, "no blocks")


class BlockOf(unittest.TestCase):
    def test_told_ones(self):
        blocks = ((0, 3), (1,), (4, 6, 7))
        for piece, expected in ((0, (0, 3)), (3, (0, 3)), (1, (1,)), (2, (2,)), (4, (4, 6, 7)), (5, (5,)), (6, (4, 6, 7)), (7, (4, 6, 7)), (23, (23,))):
            self.assertEqual(block_of(blocks, piece), expected)
            self.assertEqual(block_of((), piece), (piece,))

    def test_each_piece_is_in_its_block(self):
        for at, layout in enumerate(SOME):
            blocks = some_blocks(layout, at)
            for number, piece in enumerate(layout):
                if piece is not None:
                    told = block_of(blocks, number)
                    self.assertIn(number, told)
                    self.assertTrue(told in blocks or told == (number,) and number not in sum(blocks, ()))


class Refused(unittest.TestCase):
    def refuse(self, error, reason, deed, *told):
        with self.assertRaises(error, msg=told) as raised:
            deed(*told)
        self.assertEqual(raised.exception.reason, reason, told)

    def test_no_blocks(self):
        for blocks in (((1, 0),), ((),), ((0, 1), (1, 2)), ((2,), (1,)), [(0, 1)], ([0, 1],), ((0, 8),), None, 7, ((0, True),), "", ((0, 1), None)):
            self.refuse(BadPiece, "no blocks", BlockRun, RING, blocks)
        self.refuse(BadPiece, "no blocks", BlockRun, (), ((0,),))
        self.refuse(BadPiece, "no blocks", BlockRun, FAR_BALLOON, ((0, 1),))

    def test_adding(self):
        run = run_with(SIDING, ((0, 1), (2, 5), (3, 9)), (0, 0, 1), (3, 0, 1))
        for wrong in ((0, 1, 2), (0, 0, 3), (1, 1, 1), (10, 0, 1), (-1, 0, 1), (0, 0, 0), (-10, 0, 1)):
            self.refuse(BadTrain, "no train", run.add, wrong)
        for train in ((0, 0, 1), (0, 2, 0), (1, 0, 1), (1, 1, 0), (3, 1, 0), (9, 0, 1), (9, 2, 0)):
            self.refuse(BadTrain, "occupied", run.add, train)
        self.assertEqual((run.trains(), run.add((5, 0, 1))), (((0, 0, 1), (3, 0, 1)), 2))
        for train in ((0, 0, 1), (1, 0, 1), (2, 0, 1), (4, 0, 1)):
            self.refuse(BadTrain, "too many trains", run.add, train)
        self.refuse(BadTrain, "no train", run.add, (0, 1, 2))
        self.assertEqual(run.trains(), ((0, 0, 1), (3, 0, 1), (5, 0, 1)))

    def test_toggling(self):
        run = run_with(SIDING, ((0, 1), (8, 9)), (1, 0, 1), (9, 2, 0))
        for number in (1, 8, 10, -1, 99):
            self.refuse(BadPiece, "no turnout", run.toggle, number)
        self.refuse(BadPiece, "occupied", run.toggle, 9)
        # A train in its block is not on it.
        self.assertEqual((run.toggle(0), run.thrown(), run.toggle(0), run.thrown()), (True, (0,), False, ()))


class Ticking(unittest.TestCase):
    def test_one_by_one(self):
        # The first one moves ahead of the second one, so that this can follow; the other way round it waits.
        run = run_with(RING, (), (1, 0, 1), (0, 0, 1))
        self.assertEqual((run.tick(), run.trains()), (2, ((2, 0, 1), (1, 0, 1))))
        run = run_with(RING, (), (0, 0, 1), (1, 0, 1))
        self.assertEqual((run.tick(), run.trains()), (1, ((0, 0, 1), (2, 0, 1))))
        self.assertEqual((run.tick(), run.trains(), run.clock()), (2, ((1, 0, 1), (3, 0, 1)), 2))

    def test_blocks_are_waited_for(self):
        run = run_with(RING, ((0, 1), (2, 3)), (0, 0, 1), (2, 0, 1))
        told = [(run.tick(), run.trains()) for _ in range(4)]
        self.assertEqual(told, [
            (2, ((1, 0, 1), (3, 0, 1))), (1, ((1, 0, 1), (4, 0, 1))), (2, ((2, 0, 1), (5, 0, 1))), (2, ((3, 0, 1), (6, 0, 1))),
        ])
        # Within its block a train goes on; the block behind it is free only when it has left it.
        run = run_with(ROW, ((0, 1, 2), (3, 4)), (3, 0, 1), (2, 0, 1))
        self.assertEqual([(run.tick(), run.trains()) for _ in range(4)], [
            (1, ((4, 0, 1), (2, 0, 1))), (2, ((5, 0, 1), (3, 0, 1))), (1, ((5, 0, 1), (4, 0, 1))), (0, ((5, 0, 1), (4, 0, 1))),
        ])

    def test_trains_that_face_each_other_wait(self):
        run = run_with(ROW, (), (0, 0, 1), (5, 1, 0))
        self.assertEqual([run.tick() for _ in range(4)], [2, 2, 0, 0])
        self.assertEqual((run.trains(), run.clock(), run.is_stuck()), (((2, 0, 1), (3, 1, 0)), 4, True))
        run = run_with(ROW, (), (0, 0, 1), (4, 1, 0))
        self.assertEqual(([run.tick() for _ in range(4)], run.trains()), ([2, 1, 0, 0], ((2, 0, 1), (3, 1, 0))))

    def test_what_would_run_off_waits(self):
        run = run_with(ROW, ((0, 1, 2, 3, 4, 5),), (4, 0, 1))
        self.assertEqual([(run.tick(), run.clock()) for _ in range(3)], [(1, 1), (0, 2), (0, 3)])
        self.assertEqual((run.trains(), run.is_stuck()), (((5, 0, 1),), True))

    def test_a_block_that_lies_here_and_there(self):
        run = run_with(RING, ((0, 4),), (3, 0, 1), (7, 0, 1), (1, 0, 1))
        self.assertEqual([(run.tick(), run.trains()) for _ in range(3)], [
            (2, ((4, 0, 1), (7, 0, 1), (2, 0, 1))), (3, ((5, 0, 1), (0, 0, 1), (3, 0, 1))), (3, ((6, 0, 1), (1, 0, 1), (4, 0, 1))),
        ])

    def test_what_is_thrown_counts(self):
        run = run_with(ROUND, (), (7, 0, 1), thrown=(0,))
        self.assertEqual([(run.tick(), run.trains()) for _ in range(2)], [(1, ((0, 0, 2),)), (1, ((1, 0, 1),))])

    def test_a_clock_without_trains(self):
        run = BlockRun(RING, ())
        self.assertEqual((run.tick(), run.tick(), run.clock(), run.undo(), run.clock(), run.is_stuck()), (0, 0, 2, True, 1, True))


class Led(unittest.TestCase):
    def test_by_many_deeds(self):
        answers = set()
        for at, layout in enumerate(SOME):
            for seed in range(3):
                blocks = some_blocks(layout, 10 * at + seed)
                run, told = BlockRun(layout, blocks), ToldRun(layout, blocks)
                for deed, words in some_deeds(layout, 150, 1000 * at + seed):
                    answer = led(run, deed, words)
                    self.assertEqual(answer, getattr(told, deed)(*words), (layout, blocks, deed, words))
                    self.assertEqual(told_of(run), told.now())
                    self.assert_apart(run, blocks)
                    self.assertIs(run.is_stuck(), self.stuck_by_trial(run, layout, blocks))
                    answers.add(answer if isinstance(answer, str) else type(answer))
                while told.undo():
                    self.assertIs(run.undo(), True)
                    self.assertEqual(told_of(run), told.now())
                self.assertIs(run.undo(), False)
        self.assertEqual(answers, {"no train", "too many trains", "occupied", "no turnout", int, bool})

    def assert_apart(self, run, blocks):
        """No two trains are in one block."""
        there = [block_of(blocks, train[0]) for train in run.trains()]
        self.assertEqual(len(set(there)), len(there))

    def stuck_by_trial(self, run, layout, blocks):
        """Whether a tick makes no step, whatever is thrown."""
        for thrown in choices(layout) if len(layout) < 23 else [(), tuple(turnouts(layout))]:
            told = ToldRun(layout, blocks)
            told.stages = [(run.trains(), thrown, 0)]
            if told.tick():
                return False
        return True

    def test_all_places_of_two_trains(self):
        for layout, blocks in ((SIDING, ((0, 1), (3, 4, 9))), (ROUND, ((0, 8), (2, 3))), (WYE, ((0, 3, 6),)), (EIGHT, ((1, 9), (2, 16)))):
            for one, other in itertools.permutations(all_trains(layout), 2):
                run, told = BlockRun(layout, blocks), ToldRun(layout, blocks)
                for train in (one, other):
                    self.assertEqual(led(run, "add", (train,)), told.add(train))
                self.assertIs(run.is_stuck(), self.stuck_by_trial(run, layout, blocks))
                for _ in range(3):
                    self.assertEqual((run.tick(), told_of(run)), (told.tick(), told.now()))


class Stuck(unittest.TestCase):
    def test_told_ones(self):
        for layout, blocks, trains, expected in (
            (RING, (), (), True), (RING, (), ((0, 0, 1),), False), (RING, (), ((0, 0, 1), (1, 1, 0)), True), (RING, (), ((0, 0, 1), (1, 0, 1)), False),
            (RING, ((1, 2),), ((0, 0, 1), (2, 1, 0)), False), (RING, ((0, 1), (2, 3)), ((1, 0, 1), (3, 1, 0)), False),
            (RING, ((0, 1), (2, 3)), ((1, 0, 1), (2, 1, 0)), True), (RING, ((0, 1), (2, 3)), ((0, 1, 0), (3, 0, 1)), False),
            (RING, ((0, 1, 2, 3), (4, 5, 6, 7)), ((3, 0, 1), (7, 0, 1)), True), (ROW, (), ((5, 0, 1),), True), (ROW, (), ((0, 1, 0), (5, 0, 1)), True),
            (ROW, (), ((5, 0, 1), (4, 0, 1)), True), (ROW, (), ((5, 0, 1), (4, 0, 1), (3, 0, 1)), True), (ROW, (), ((5, 0, 1), (4, 0, 1), (2, 0, 1)), False),
            # Ahead of a turnout: it is free or not, however it is thrown.
            (ROUND, (), ((8, 1, 0),), False), (ROUND, (), ((8, 0, 1), (0, 0, 1)), True), (ROUND, ((0, 8),), ((8, 0, 1), (7, 0, 1)), True),
            (ROUND, ((0, 8),), ((8, 1, 0), (7, 0, 1)), False), (ROUND, ((0, 4),), ((7, 0, 1), (4, 0, 1)), False), ((), (), (), True),
        ):
            run = run_with(layout, blocks, *trains)
            self.assertIs(run.is_stuck(), expected, (blocks, trains))
            self.assertEqual(run.clock(), 0)
            if expected:
                self.assertEqual((run.tick(), run.trains()), (0, trains))

    def test_asking_changes_nothing(self):
        run = run_with(SIDING, ((0, 1),), (0, 0, 1), (9, 1, 0))
        before = told_of(run)
        self.assertEqual(([run.is_stuck() for _ in range(3)], told_of(run)), ([False] * 3, before))
        self.assertEqual([run.undo(), run.undo(), run.undo()], [True, True, False])


class Undoing(unittest.TestCase):
    def test_sixty_are_kept(self):
        for many in (59, 60, 61, 90):
            run = run_with(RING, ((0, 1),), (0, 0, 1))
            for _ in range(many - 1):
                run.tick()
            undone = 0
            while run.undo():
                undone += 1
            self.assertEqual((undone, run.clock()), (min(many, 60), max(0, many - 61)))

    def test_adding_toggling_and_ticks(self):
        run = run_with(SIDING, ((0, 1),), thrown=(9,))
        stages = [told_of(run)]
        for deed, told in (("add", ((3, 0, 1),)), ("tick", ()), ("toggle", (0,)), ("add", ((0, 0, 2),)), ("tick", ())):
            getattr(run, deed)(*told)
            stages.append(told_of(run))
        for stage in stages[-2::-1]:
            self.assertEqual((run.undo(), told_of(run)), (True, stage))
        self.assertEqual((run.undo(), run.undo(), told_of(run)), (True, False, ((), (), 0)))


class ToldElsewhere(unittest.TestCase):
    def test_runs_by_blocks_are_the_same(self):
        for layout in (ROUND, BALLOON, WYE, OVAL, DUMBBELL, FAR_BALLOON, EIGHT, UNEVEN, TWO_SIDINGS, ladder(3), ring_of_turnouts(4)):
            blocks = some_blocks(layout, len(layout))
            for variant in variants(layout):
                there = tuple(sorted(map(variant.numbers, blocks)))
                self.assertIs(are_blocks(variant.layout, there), True)
                run, other = BlockRun(layout, blocks), BlockRun(variant.layout, there)
                for deed, words in some_deeds(layout, 50, len(layout)):
                    if deed == "add" and words[0] not in all_trains(layout) or deed == "toggle" and words[0] not in range(len(layout)):
                        continue
                    answer = led(other, deed, tuple(map(variant.train if deed == "add" else variant.number, words)))
                    self.assertEqual(answer, led(run, deed, words), (variant.name, deed, words))
                    self.assertIs(other.is_stuck(), run.is_stuck())
                self.assertEqual(other.trains(), tuple(map(variant.train, run.trains())))


class Arguments(unittest.TestCase):
    def test_nothing_is_changed(self):
        layout, blocks, as_lists = FAR_BALLOON, ((1, 2), (3, 5)), [[1, 2], [3, 5]]
        run = run_with(layout, blocks, (1, 0, 1))
        run.tick()
        self.assertEqual((are_blocks(layout, blocks), are_blocks(layout, as_lists), block_of(blocks, 5)), (True, False, (3, 5)))
        self.assertEqual((layout, blocks, as_lists), (TRACKS["with gaps"], ((1, 2), (3, 5)), [[1, 2], [3, 5]]))
        self.assertEqual(stepped(layout, (), (1, 0, 1)), run.trains()[0])
        self.assertEqual(free(layout, (1, 0, 1)), run.trains())
