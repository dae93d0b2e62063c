import heapq
import unittest

from railshut.errors import BadTrain
from railshut.exchanges import exchange_plan, exchange_steps
from tests.floors import along, some_layouts
from tests.model import HOME
from tests.tracks import (
    BALLOON, DUMBBELL, EIGHT, FAR_BALLOON, OVAL, RING, ROUND, SIDING, TRACKS, TWO_SIDINGS, UNEVEN, WYE, all_trains,
    faced, free, grown_layouts, ladder, ring_of_turnouts, siding, some_pairs,
)
from tests.variants import variants

# A straight at each end of a siding; and a turnout with a piece at each end ahead, and a row behind it.
STATION = SIDING + (("S", (-2, 0, 0, 0, 0)), ("S", siding(HOME)[1]))
SPUR = along(HOME, "SS") + (("P", (4, 0, 0, 0, 0)), ("S", (6, 0, 0, 0, 0)), ("C", (4, 0, 2, -2, 1)))
SOME = (RING, ROUND, BALLOON, SIDING, EIGHT, WYE, UNEVEN, SPUR, FAR_BALLOON, ladder(2), ladder(3), ring_of_turnouts(3), TRACKS["a row"]) + tuple(
    some_layouts(12, seed=97)) + grown_layouts(10, 13)


def exchange_by_search(layout, one, other):
    """The first plan, through all pairs of trains, each of which may face round; None if there is none."""
    waiting, done = [(0, (), one, other)], set()
    while waiting:
        steps, plan, first, second = heapq.heappop(waiting)
        if (first, second) in done:
            continue
        if (first[0], second[0]) == (other[0], one[0]):
            return plan
        done.add((first, second))
        for pair in ((faced(first), second), (first, faced(second))):
            heapq.heappush(waiting, (steps, plan) + pair)
        for ahead in free(layout, first):
            if ahead[0] != second[0]:
                heapq.heappush(waiting, (steps + 1, plan + ((0, ahead[0]),), ahead, second))
        for ahead in free(layout, second):
            if ahead[0] != first[0]:
                heapq.heappush(waiting, (steps + 1, plan + ((1, ahead[0]),), first, ahead))
    return None


def can_be_done(layout, one, other, plan):
    """Whether the plan can be done step by step and exchanges the two trains."""
    pairs = {(one, other)}
    for which, piece in plan:
        behind = set()
        for pair in pairs:
            for train in (pair[which], faced(pair[which])):
                for ahead in free(layout, train):
                    if ahead[0] == piece != pair[1 - which][0]:
                        behind.add((ahead, pair[1]) if which == 0 else (pair[0], ahead))
        pairs = behind
    return any((first[0], second[0]) == (other[0], one[0]) for first, second in pairs)


class Exchange(unittest.TestCase):
    def test_round_a_ring(self):
        steps = exchange_steps(RING, (0, 0, 1), (4, 0, 1))
        plan = exchange_plan(RING, (0, 0, 1), (4, 0, 1))
        self.assertEqual(steps, 8)
        self.assertEqual(plan, ((0, 1), (0, 2), (0, 3), (1, 5), (0, 4), (1, 6), (1, 7), (1, 0)))
        self.assertEqual(exchange_plan(RING, (0, 0, 1), (1, 0, 1)), ((0, 7), (0, 6), (0, 5), (0, 4), (0, 3), (0, 2), (1, 0), (0, 1)))
        self.assertEqual(exchange_plan(RING, (0, 1, 0), (1, 1, 0)), exchange_plan(RING, (0, 0, 1), (1, 0, 1)))
        for number in range(1, 8):
            self.assertEqual(exchange_steps(RING, (0, 0, 1), (number, 1, 0)), 8)

    def test_beside_a_turnout(self):
        # One goes onto the straight behind the turnout, the other one onto its branch, and both come back.
        self.assertEqual(exchange_plan(SPUR, (0, 0, 1), (1, 0, 1)), (
            (1, 2), (0, 1), (1, 3), (0, 2), (0, 4), (1, 2), (1, 1), (0, 2), (1, 0), (0, 1),
        ))
        self.assertEqual(exchange_steps(SPUR, (0, 0, 1), (1, 0, 1)), 10)
        # What stands on the turnout leaves it by the end by which it lies there.
        self.assertEqual(exchange_plan(SPUR, (1, 1, 0), (2, 1, 0)), ((1, 3), (0, 2), (0, 4), (1, 2), (1, 1), (0, 2)))
        self.assertEqual(exchange_plan(SPUR, (1, 1, 0), (2, 2, 0)), ((1, 4), (0, 2), (0, 3), (1, 2), (1, 1), (0, 2)))
        # From the one end ahead to the other one there is no way but over the end 0 and back.
        self.assertEqual(exchange_plan(SPUR, (3, 0, 1), (4, 0, 1)), (
            (0, 2), (0, 1), (0, 0), (1, 2), (1, 1), (1, 2), (0, 1), (1, 3), (0, 2), (0, 4),
        ))

    def test_over_a_siding(self):
        plan = exchange_plan(STATION, (10, 0, 1), (11, 0, 1))
        self.assertEqual(plan, exchange_by_search(STATION, (10, 0, 1), (11, 0, 1)))
        self.assertEqual(len(plan), 14)
        # The first of the two takes the way with the less numbers as far as it can, ahead of the other one.
        self.assertEqual(plan[:5], ((0, 0), (0, 1), (0, 2), (0, 3), (0, 4)))

    def test_none(self):
        row = along(HOME, "SSLRS")
        for layout, one, other in (
            (row, (0, 0, 1), (4, 0, 1)), (row, (1, 1, 0), (2, 0, 1)), (row, (2, 0, 1), (1, 1, 0)),
            (RING + (None, ("X", (50, 0, 0, 0, 0))), (0, 0, 1), (9, 0, 1)), ((("S", HOME), ("H", (9, 0, 0, 0, 0))), (0, 0, 1), (1, 0, 1)),
            (SPUR[:4], (0, 0, 1), (1, 0, 1)), (SPUR[:3], (0, 0, 1), (2, 0, 1)),
        ):
            self.assertIsNone(exchange_steps(layout, one, other), (one, other))
            self.assertIsNone(exchange_plan(layout, one, other), (one, other))

    def test_against_a_search_through_all_pairs_of_trains(self):
        none, plans = 0, 0
        for layout in SOME:
            for one, other in some_pairs(layout, 60):
                if one[0] != other[0]:
                    plan = exchange_plan(layout, one, other)
                    self.assertEqual(plan, exchange_by_search(layout, one, other), (layout, one, other))
                    steps = exchange_steps(layout, one, other)
                    if plan is None:
                        none += 1
                        self.assertIsNone(steps)
                    else:
                        plans += 1
                        self.assertEqual(steps, len(plan))
                        self.assertTrue(can_be_done(layout, one, other, plan))
                        self.assertEqual({type(part) for pair in plan + (plan,) for part in pair}, {int, tuple})
        self.assertGreater(none, 100)
        self.assertGreater(plans, 100)

    def test_facing_round_changes_nothing(self):
        for layout in (RING, SPUR, WYE, BALLOON):
            for one, other in some_pairs(layout, 25):
                if one[0] != other[0]:
                    told = exchange_plan(layout, one, other)
                    for pair in ((faced(one), other), (one, faced(other)), (faced(one), faced(other))):
                        self.assertEqual(exchange_plan(layout, *pair), told)
                    self.assertEqual(exchange_steps(layout, other, one), None if told is None else len(told))

    def test_a_turnout_is_come_onto_to_leave_it_either_way(self):
        # Which way it will leave is not told, so one pair in the plan stands for both.
        ways = {}
        for layout in (SPUR, WYE, ladder(3)):
            for one, other in some_pairs(layout, 150):
                if one[0] != other[0] and layout[one[0]][0] == "P":
                    plan = exchange_plan(layout, one, other)
                    self.assertEqual(plan, exchange_by_search(layout, one, other))
                    ways.setdefault((layout, one[0], other), set()).add(plan)
        # The way a train lies on a turnout can matter.
        self.assertTrue(any(len(plans) > 1 for plans in ways.values()))


class AtTheBound(unittest.TestCase):
    def test_layouts_of_24_pieces(self):
        self.assertEqual(len(OVAL), 24)
        for layout, one, other in (
            (OVAL, (1, 1, 0), (23, 0, 1)), (OVAL, (3, 0, 1), (7, 0, 1)), (ladder(10) + (None,), (22, 0, 1), (21, 0, 1)),
            (ladder(10) + (None,), (20, 0, 1), (22, 1, 0)), (DUMBBELL + (None,) * 5, (0, 0, 1), (10, 0, 2)),
            (TWO_SIDINGS + (None, None, None, ("S", (-2, 0, 0, 0, 0))), (23, 0, 1), (0, 0, 2)),
        ):
            self.assertEqual(len(layout), 24)
            plan = exchange_plan(layout, one, other)
            self.assertEqual(plan, exchange_by_search(layout, one, other))
            self.assertEqual(exchange_steps(layout, one, other), None if plan is None else len(plan))

    def test_24_crossings_side_by_side(self):
        layout = tuple(("X", (2 * number, 0, 0, 0, 0)) for number in range(24))
        self.assertIsNone(exchange_plan(layout, (0, 0, 1), (23, 0, 1)))
        self.assertIsNone(exchange_steps(layout, (5, 2, 3), (7, 3, 2)))


class Refused(unittest.TestCase):
    def refuse(self, reason, layout, one, other):
        for function in (exchange_steps, exchange_plan):
            with self.assertRaises(BadTrain, msg=(one, other)) as raised:
                function(layout, one, other)
            self.assertEqual(raised.exception.reason, reason, (one, other))

    def test_no_train(self):
        for wrong in ((0, 1, 2), (0, 0, 3), (1, 1, 1), (99, 0, 1), (-1, 0, 1), (0, 0, 0)):
            for one, other in ((wrong, (1, 0, 1)), ((1, 0, 1), wrong), (wrong, wrong), (wrong, (0, 0, 1)), ((0, 0, 1), wrong)):
                self.refuse("no train", SIDING, one, other)
        self.refuse("no train", (), (0, 0, 1), (0, 0, 1))
        self.refuse("no train", FAR_BALLOON, (0, 0, 1), (1, 0, 1))

    def test_one_piece(self):
        for layout, one, other in (
            (RING, (0, 0, 1), (0, 0, 1)), (RING, (3, 0, 1), (3, 1, 0)), (SIDING, (0, 0, 1), (0, 2, 0)), (EIGHT, (0, 0, 1), (0, 3, 2)),
            ((("S", HOME),), (0, 1, 0), (0, 1, 0)),
        ):
            self.refuse("one piece", layout, one, other)


class ToldElsewhere(unittest.TestCase):
    def test_exchanges_are_the_same(self):
        for layout in (ROUND, WYE, SPUR, EIGHT, UNEVEN, FAR_BALLOON, ladder(3)):
            for variant in variants(layout):
                for one, other in some_pairs(layout, 12):
                    if one[0] != other[0]:
                        plan = exchange_plan(layout, one, other)
                        told = exchange_plan(variant.layout, variant.train(one), variant.train(other))
                        if variant.name.startswith("numbers") and plan is not None:
                            # Of several plans another one can be the first under other numbers.
                            self.assertEqual(len(told), len(plan))
                            again = tuple((which, variant.number(piece)) for which, piece in plan)
                            self.assertTrue(can_be_done(variant.layout, variant.train(one), variant.train(other), again))
                        else:
                            self.assertEqual(told, plan, variant.name)


class Arguments(unittest.TestCase):
    def test_no_function_changes_them(self):
        layout, one, other = FAR_BALLOON, (1, 0, 1), (3, 0, 1)
        told = [(exchange_plan(layout, one, other), exchange_steps(layout, one, other)) for _ in range(2)]
        self.assertEqual(told[0], told[1])
        self.assertEqual((layout, one, other), (TRACKS["with gaps"], (1, 0, 1), (3, 0, 1)))
        self.assertEqual(len(all_trains(layout)), 28)
