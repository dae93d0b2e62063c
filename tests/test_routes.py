import unittest

from railshut.errors import BadTrain
from railshut.routes import can_turn_round, free_steps, judge_paper, make_paper, reach, shortest_route
from tests.floors import along, some_layouts
from tests.model import HOME
from tests.tracks import (
    BALLOON, DUMBBELL, EIGHT, FAR_BALLOON, RING, ROUND, SIDING, TRACKS, TWO_SIDINGS, all_trains, free, shortest_by_trial,
    some_pairs, trains_reached,
)

SMALL = (RING, ROUND, BALLOON, SIDING, EIGHT, FAR_BALLOON, DUMBBELL) + tuple(some_layouts(12, seed=31))
NO_TRAINS = ((0, 1, 2), (0, 0, 3), (1, 1, 1), (10, 0, 1), (-1, 0, 1), (0, 0, 0))


class FreeSteps(unittest.TestCase):
    def test_one_two_and_none(self):
        for layout, train, expected in (
            (RING, (0, 0, 1), ((1, 0, 1),)), (RING, (0, 1, 0), ((7, 1, 0),)), (ROUND, (8, 0, 1), ()), (ROUND, (8, 1, 0), ((0, 1, 0),)),
            (ROUND, (7, 0, 1), ((0, 0, 1), (0, 0, 2))), (ROUND, (0, 0, 1), ((8, 0, 1),)), (ROUND, (0, 0, 2), ((1, 0, 1),)),
            (ROUND, (1, 1, 0), ((0, 2, 0),)), (SIDING, (9, 1, 0), ()), (EIGHT, (8, 0, 1), ((0, 2, 3),)),
            (TWO_SIDINGS, (9, 2, 0), ((10, 0, 1), (10, 0, 2))), ((("S", HOME),), (0, 0, 1), ()),
        ):
            self.assertEqual(free_steps(layout, train), expected, train)

    def test_beside_the_ends_looked_for(self):
        for layout in SMALL + tuple(TRACKS.values()):
            for train in all_trains(layout):
                self.assertEqual(free_steps(layout, train), tuple(free(layout, train)))


class ShortestRoute(unittest.TestCase):
    def test_told_ones(self):
        for layout, train, goal, expected in (
            (RING, (0, 0, 1), (2, 0, 1), ((0, 0, 1), (1, 0, 1), (2, 0, 1))), (RING, (0, 0, 1), (2, 1, 0), None),
            (RING, (6, 0, 1), (1, 0, 1), ((6, 0, 1), (7, 0, 1), (0, 0, 1), (1, 0, 1))),
            (ROUND, (8, 1, 0), (0, 2, 0), ((8, 1, 0), (0, 1, 0)) + tuple((at, 1, 0) for at in range(7, 0, -1)) + ((0, 2, 0),)),
            (ROUND, (8, 1, 0), (8, 0, 1), None),
            (ROUND, (7, 0, 1), (8, 0, 1), ((7, 0, 1), (0, 0, 1), (8, 0, 1))),
            (ROUND, (7, 0, 1), (1, 0, 1), ((7, 0, 1), (0, 0, 2), (1, 0, 1))), (ROUND, (8, 0, 1), (0, 0, 1), None),
        ):
            self.assertEqual(shortest_route(layout, train, goal), expected, (train, goal))

    def test_from_a_train_to_itself(self):
        for layout in SMALL:
            for train in all_trains(layout):
                self.assertEqual(shortest_route(layout, train, train), (train,))

    def test_of_several_shortest_ones_by_the_end_1(self):
        lower = ((0, 0, 1),) + tuple((at, *ends) for at, ends in zip((1, 2, 3, 4), ((1, 0), (0, 1), (0, 1), (1, 0)))) + ((9, 1, 0),)
        self.assertEqual(shortest_route(SIDING, (0, 0, 1), (9, 1, 0)), lower)
        goal = (19, 1, 0)
        told = shortest_route(TWO_SIDINGS, (0, 0, 1), goal)
        self.assertEqual([train for train in told if train[0] in (0, 9, 10, 19)], [(0, 0, 1), (9, 1, 0), (10, 0, 1), goal])
        upper = shortest_route(TWO_SIDINGS, (0, 0, 2), goal)
        self.assertEqual([train for train in upper if train[0] in (0, 9, 10, 19)], [(0, 0, 2), (9, 2, 0), (10, 0, 1), goal])
        self.assertEqual(len(told), len(upper))
        # Over a joint ahead of the first turnout the choice is the route's.
        layout = SIDING + (("S", (-2, 0, 0, 0, 0)),)
        self.assertEqual(shortest_route(layout, (10, 0, 1), (9, 1, 0)), ((10, 0, 1),) + lower)

    def test_a_branch_that_is_shorter(self):
        # The way straight on is longer by a piece: a straight is told by its two halves there.
        layout = (("P", HOME),) + along((2, 0, 0, 0, 0), "RLLR") + along((0, 0, 2, -2, 1), "RHHSR") + (SIDING[9],)
        self.assertEqual(shortest_route(layout, (0, 0, 1), (10, 1, 0))[1][0], 1)
        layout = (("P", (-2, 0, 0, 0, 0)), ("P", HOME)) + along((2, 0, 0, 0, 0), "RLLR") + along((0, 0, 2, -2, 1), "RSSR") + (SIDING[9],)
        layout = layout + (("S", (-4, 0, 0, 0, 0)),)
        self.assertEqual(shortest_route(layout, (11, 0, 1), (10, 2, 0))[2], (1, 0, 2))
        self.assertEqual(shortest_route(layout, (11, 0, 1), (10, 1, 0))[2], (1, 0, 1))

    def test_beside_a_trial_of_all_routes(self):
        for layout in SMALL:
            for train, goal in some_pairs(layout, 120):
                self.assertEqual(shortest_route(layout, train, goal), shortest_by_trial(layout, train, goal), (layout, train, goal))

    def test_on_two_sidings(self):
        for train, goal in some_pairs(TWO_SIDINGS, 60) + [((0, 0, 1), (19, 2, 0)), ((0, 0, 2), (19, 1, 0))]:
            self.assertEqual(shortest_route(TWO_SIDINGS, train, goal), shortest_by_trial(TWO_SIDINGS, train, goal))


class Reach(unittest.TestCase):
    def test_told_ones(self):
        for layout, train, expected in (
            (RING, (0, 0, 1), tuple(range(8))), (ROUND, (8, 0, 1), (8,)), (ROUND, (8, 1, 0), tuple(range(9))), (ROUND, (0, 0, 1), (0, 8)),
            (ROUND, (1, 0, 1), tuple(range(9))), (SIDING, (2, 0, 1), (2, 3, 4, 9)), (SIDING, (0, 0, 2), (0, 5, 6, 7, 8, 9)),
            (FAR_BALLOON, (1, 0, 1), (1, 2, 3, 4, 5, 12, 13)), (BALLOON, (15, 0, 1), tuple(range(16))), ((("S", HOME),), (0, 1, 0), (0,)),
            (RING + (None, ("X", (50, 0, 0, 0, 0))), (9, 2, 3), (9,)),
        ):
            self.assertEqual(reach(layout, train), expected, train)

    def test_beside_all_trains_that_are_reached(self):
        for layout in SMALL + (TWO_SIDINGS,):
            for train in all_trains(layout):
                reached = trains_reached(layout, train)
                self.assertEqual(reach(layout, train), tuple(sorted({other[0] for other in reached})))
                self.assertIs(can_turn_round(layout, train), (train[0], train[2], train[1]) in reached)


class TurnRound(unittest.TestCase):
    def test_with_a_loop_and_without(self):
        for layout, train, expected in (
            (BALLOON, (15, 0, 1), True), (BALLOON, (15, 1, 0), False), (BALLOON, (0, 0, 1), False), (BALLOON, (0, 0, 2), False),
            (BALLOON, (3, 0, 1), False), (BALLOON, (0, 1, 0), False), (RING, (0, 0, 1), False), (SIDING, (0, 0, 1), False),
            (ROUND, (8, 1, 0), False), (EIGHT, (0, 0, 1), False), ((("S", HOME),), (0, 0, 1), False),
        ):
            self.assertIs(can_turn_round(layout, train), expected, train)

    def test_with_a_loop_at_each_end_all_trains_can(self):
        for train in all_trains(DUMBBELL):
            self.assertIs(can_turn_round(DUMBBELL, train), True, train)
            self.assertEqual(reach(DUMBBELL, train), tuple(range(19)))


class Papers(unittest.TestCase):
    def test_made_ones_are_taken(self):
        kinds = set()
        for layout in SMALL + (TWO_SIDINGS,):
            for train, goal in some_pairs(layout, 80):
                paper = make_paper(layout, train, goal)
                kinds.add(paper[0])
                self.assertIs(judge_paper(layout, train, goal, paper), True, paper)
                self.assert_kinds(paper)
                route = shortest_by_trial(layout, train, goal)
                if route is None:
                    self.assertEqual((paper[0], len(paper)), ("never", 2))
                else:
                    self.assertEqual((paper[0], len(paper), len(paper[1])), ("least", 3, len(route)))
        self.assertEqual(kinds, {"least", "never"})

    def assert_kinds(self, paper):
        """Tuples all through, and integers that are no truth values."""
        self.assertIs(type(paper), tuple)
        for part in paper:
            if isinstance(part, tuple):
                self.assert_kinds(part)
            else:
                self.assertIn(type(part), (int, str))

    def test_a_train_that_is_the_goal(self):
        for layout in SMALL:
            for train in all_trains(layout)[:4]:
                self.assertEqual(make_paper(layout, train, train), ("least", (train,), ()))
                self.assertIs(judge_paper(layout, train, train, ("least", (train,), ())), True)
                self.assertIs(judge_paper(layout, train, train, ("least", (train,), ((train, 1),))), False)
                self.assertIs(judge_paper(layout, train, train, ("never", (train,))), False)
                self.assertIs(judge_paper(layout, train, train, ("never", ())), False)

    def test_papers_that_others_made(self):
        route = tuple((at, 0, 1) for at in range(4))
        numbers = (((0, 0, 1), 3), ((1, 0, 1), 2), ((2, 0, 1), 1), ((7, 0, 1), 3), ((6, 0, 1), 3), ((5, 0, 1), 3), ((4, 0, 1), 3))
        for pairs, expected in (
            (numbers, True), (numbers[::-1], True), (numbers + (((3, 1, 0), 5),), False),
            # What the other trains have does not matter, as long as it is not too much.
            (numbers[:3], True), (numbers[:6], True), (numbers[:5], True), (numbers[:2], False), (numbers[1:], False),
            (numbers[:3] + numbers[4:], False), (numbers[:4] + numbers[5:], False),
            # The trains facing round have only each other: all may have the same, however much.
            (numbers + tuple(((at, 1, 0), 10 ** 30) for at in range(8)), True),
            # Each one a step farther away may have 1 more; not 2.
            (numbers[:3] + (((7, 0, 1), 4), ((6, 0, 1), 5), ((5, 0, 1), 6), ((4, 0, 1), 7)), True),
            (numbers[:3] + (((7, 0, 1), 4), ((6, 0, 1), 5), ((5, 0, 1), 7), ((4, 0, 1), 7)), False),
        ):
            self.assertIs(judge_paper(RING, (0, 0, 1), (3, 0, 1), ("least", route, pairs)), expected, pairs)
        never = tuple((at, 0, 1) for at in range(8))
        for trains, expected in (
            (never, True), (never[::-1], True), (never + never, True), (never + ((2, 1, 0),), False), (never[:7], False), (never[1:], False),
        ):
            self.assertIs(judge_paper(RING, (0, 0, 1), (3, 1, 0), ("never", trains)), expected, trains)


class RefusedPapers(unittest.TestCase):
    LAYOUT, TRAIN, GOAL = ROUND, (8, 1, 0), (1, 1, 0)

    def refuse(self, *papers):
        for paper in papers:
            self.assertIs(judge_paper(self.LAYOUT, self.TRAIN, self.GOAL, paper), False, paper)

    def setUp(self):
        self.paper = make_paper(self.LAYOUT, self.TRAIN, self.GOAL)
        self.route, self.numbers = self.paper[1:]
        self.assertEqual(self.route, ((8, 1, 0), (0, 1, 0), (7, 1, 0), (6, 1, 0), (5, 1, 0), (4, 1, 0), (3, 1, 0), (2, 1, 0), (1, 1, 0)))
        self.assertIs(judge_paper(self.LAYOUT, self.TRAIN, self.GOAL, self.paper), True)

    def with_route(self, route):
        return ("least", route, self.numbers)

    def with_numbers(self, numbers):
        return ("least", self.route, numbers)

    def test_routes(self):
        route = self.route
        for at in range(len(route)):
            # One train left out, told twice, facing round, another one.
            self.refuse(self.with_route(route[:at] + route[at + 1:]), self.with_route(route[:at + 1] + route[at:]))
            piece, entry, leaving = route[at]
            for other in ((piece, leaving, entry), (0, 0, 1), (8, 0, 1), (99, 0, 1), (-1, 0, 1), (piece, entry, 3), (0, 1, 2)):
                if other != route[at]:
                    self.refuse(self.with_route(route[:at] + (other,) + route[at + 1:]))
        self.refuse(
            self.with_route(()), self.with_route(route + ((0, 2, 0),)), self.with_route(route[::-1]), self.with_route(route[:1]),
            self.with_route(route[-1:]), self.with_route(((8, 0, 1),) + route), self.with_route(route * 2),
        )

    def test_a_route_that_ends_or_begins_elsewhere_with_numbers_that_fit(self):
        for many in range(1, len(self.route)):
            numbers = tuple((train, min(number, many - 1)) for train, number in self.numbers if many > 1)
            self.refuse(("least", self.route[:many], numbers))
            self.assertIs(judge_paper(self.LAYOUT, self.TRAIN, self.GOAL, ("least", self.route[many:], self.numbers)), False)
        behind = ((8, 0, 1), (0, 1, 0)) + self.route[2:]
        self.refuse(("least", behind, self.numbers), ("least", self.route[1:], self.numbers))
        # Where there is such a route for another train, the paper is about that one.
        self.assertIs(judge_paper(self.LAYOUT, (0, 1, 0), self.GOAL, ("least", self.route[1:], tuple(
            (train, min(number, 7)) for train, number in self.numbers))), True)

    def test_a_route_that_goes_round_once_more(self):
        route = self.route + ((0, 2, 0),) + tuple((at, 1, 0) for at in range(7, 0, -1))
        self.refuse(self.with_route(route))
        numbers = tuple((train, number + 8) for train, number in self.numbers)
        self.refuse(("least", route, numbers), ("least", route, self.numbers + ((self.GOAL, 8),)))

    def test_numbers(self):
        numbers = self.numbers
        for at, (train, number) in enumerate(numbers):
            ahead, behind = numbers[:at], numbers[at + 1:]
            self.refuse(
                # Nought, below nought, twice.
                self.with_numbers(ahead + ((train, 0),) + behind), self.with_numbers(ahead + ((train, -1),) + behind),
                self.with_numbers(numbers + ((train, number),)), self.with_numbers(ahead + ((train, number), (train, 1)) + behind),
            )
            if train in self.route:
                # Too great by one, too small by one, missing.
                self.refuse(
                    self.with_numbers(ahead + ((train, number + 1),) + behind), self.with_numbers(ahead + ((train, number - 1),) + behind),
                    self.with_numbers(ahead + behind),
                )
        self.refuse(
            self.with_numbers(()), self.with_numbers(numbers[:1]), self.with_numbers(numbers + (((99, 0, 1), 1),)),
            self.with_numbers(numbers + ((self.GOAL, 1),)), self.with_numbers(numbers + (((0, 0, 3), 1),)),
            self.with_numbers(numbers + (((8, 0, 1), 9),) + (((0, 0, 0), 1),)),
        )

    def test_lists_in_place_of_tuples_and_other_shapes(self):
        route, numbers = self.route, self.numbers
        self.refuse(
            list(self.paper), ["least", list(route), list(numbers)], self.with_route(list(route)), self.with_numbers(list(numbers)),
            self.with_route([list(train) for train in route]), self.with_route(tuple(list(train) for train in route)),
            self.with_numbers(tuple([train, number] for train, number in numbers)), self.with_numbers(dict(numbers)),
            self.with_numbers(tuple((list(train), number) for train, number in numbers)), self.with_numbers(set(numbers)),
            ("least",), ("least", route), ("least", numbers), ("least", route, numbers, ()), ("least", numbers, route), (route, numbers),
            ("never", route, numbers), ("Least", route, numbers), ("least ", route, numbers), (b"least", route, numbers), (None, route, numbers),
            ("least", None, numbers), ("least", route, None), ("least", "route", numbers), ("least", route, "numbers"), ("least", 1, 2),
            ("least", route, 7), ("least", (route,), numbers), ("least", route, (numbers,)), self.with_route(route[0]),
            self.with_route(tuple(train + (1,) for train in route)), self.with_route(tuple(train[:2] for train in route)),
            self.with_numbers(tuple((number, train) for train, number in numbers)), self.with_numbers(tuple(train + (number,) for train, number in numbers)),
            self.with_numbers(tuple((train, number, 1) for train, number in numbers)), self.with_numbers(tuple((train,) for train, _ in numbers)),
        )

    def test_truth_values_and_other_numbers_are_no_integers(self):
        route, numbers = self.route, self.numbers
        self.assertEqual(((8, True, False),) + route[1:], route)
        self.refuse(
            self.with_route(((8, True, False),) + route[1:]), self.with_route(((8.0, 1, 0),) + route[1:]), self.with_route((("8", 1, 0),) + route[1:]),
            self.with_numbers(tuple((train, float(number)) for train, number in numbers)),
            self.with_numbers(tuple((train, True if number == 1 else number) for train, number in numbers)),
            self.with_numbers(tuple((train, str(number)) for train, number in numbers)), self.with_numbers(tuple((train, None) for train, _ in numbers)),
            self.with_numbers(tuple(((train[0], bool(train[1]), train[2]), number) if train[1] < 2 else (train, number) for train, number in numbers)),
        )

    def test_whatever_it_is(self):
        class NotToBeCompared:
            def __eq__(self, other):
                raise RuntimeError

        odd = NotToBeCompared()
        deep = ()
        for _ in range(5000):
            deep = (deep,)
        for worth in (
            None, 0, 1, -1, True, False, 1.5, "", "least", "never", b"", (), [], {}, set(), object(), odd, deep, len, "route 0 0 1", (None,), ((),),
            ("never",), ("least",), "least" * 3, range(3), {"least": 1}, float("nan"), (odd,), (deep, deep, deep), [[[]]],
        ):
            self.refuse(worth, (worth, worth), ("never", worth), ("never", (worth,)), ("never", (worth, self.TRAIN)))
            if type(worth) is not str or worth != "least":
                self.refuse((worth, self.route, self.numbers))
            self.refuse(("least", worth, self.numbers), ("least", self.route, worth), ("least", worth, worth), (worth, worth, worth))
            self.refuse(self.with_route(self.route[:3] + (worth,) + self.route[4:]))
            self.refuse(self.with_numbers(self.numbers + (worth,)), self.with_numbers(self.numbers + ((worth, 1),)))
            self.refuse(self.with_numbers(self.numbers + (((worth, 0, 1), 1),)))
            if type(worth) is not int:
                self.refuse(self.with_route(((8, worth, 0),) + self.route[1:]))
                self.refuse(self.with_numbers(self.numbers[1:] + ((self.numbers[0][0], worth),)))

    def test_never(self):
        goal, train = (8, 0, 1), (8, 1, 0)
        trains = make_paper(ROUND, train, goal)[1]
        self.assertEqual(set(trains), set(trains_reached(ROUND, train)))
        told = [
            ("never", trains[:at] + trains[at + 1:]) for at in range(len(trains))
        ] + [
            ("never", trains + (goal,)), ("never", trains + ((99, 0, 1),)), ("never", trains + ((0, 0, 3),)), ("never", list(trains)),
            ("never", ()), ("never", trains, ()), ("least", trains), ("least", trains, ()), ["never", trains], ("never", set(trains)), ("never", None),
            ("never", tuple(list(one) for one in trains)), ("never", tuple((piece, bool(entry), leaving) for piece, entry, leaving in trains)),
            ("never", trains + ((0, 0, 1),)), ("never", trains[0]), ("never", (trains,)), ("never",),
        ]
        for paper in told:
            self.assertIs(judge_paper(ROUND, train, goal, paper), False, paper)
        self.assertIs(judge_paper(ROUND, train, goal, ("never", trains)), True)

    def test_never_where_there_is_a_route(self):
        for train, goal in some_pairs(SIDING, 200):
            if shortest_by_trial(SIDING, train, goal):
                for trains in (trains_reached(SIDING, train), all_trains(SIDING), [train]):
                    trains = tuple(one for one in trains if one != goal)
                    self.assertIs(judge_paper(SIDING, train, goal, ("never", trains)), False)

    def test_trains_and_goals_that_are_none(self):
        never = ("never", tuple(trains_reached(RING, (0, 0, 1))))
        for wrong in NO_TRAINS:
            self.assertIs(judge_paper(RING, (0, 0, 1), wrong, never), False)
            self.assertIs(judge_paper(RING, wrong, (0, 0, 1), ("never", (wrong,))), False)
            self.assertIs(judge_paper(RING, wrong, wrong, ("least", (wrong,), ())), False)


class Refused(unittest.TestCase):
    def refuse(self, function, *told):
        with self.assertRaises(BadTrain, msg=told) as raised:
            function(*told)
        self.assertEqual(raised.exception.reason, "no train")

    def test_no_train(self):
        for wrong in NO_TRAINS + ((0, 2, 0),):
            for function in (shortest_route, make_paper):
                self.refuse(function, RING, wrong, (0, 0, 1))
                self.refuse(function, RING, (0, 0, 1), wrong)
                self.refuse(function, RING, wrong, wrong)
            for function in (reach, can_turn_round):
                self.refuse(function, RING, wrong)
        for layout, train in (((), (0, 0, 1)), ((None,), (0, 0, 1)), (FAR_BALLOON, (0, 0, 1)), (FAR_BALLOON, (6, 1, 0))):
            self.refuse(shortest_route, layout, train, train)
            self.refuse(reach, layout, train)


class Arguments(unittest.TestCase):
    def test_no_function_changes_them(self):
        layout, train, goal = FAR_BALLOON, (1, 0, 1), (13, 0, 1)
        paper = make_paper(layout, train, goal)
        before = tuple(tuple(part) if isinstance(part, tuple) else part for part in paper)
        as_list = ["least", [[1, 0, 1]], []]
        for _ in range(2):
            self.assertEqual((free_steps(layout, train), len(shortest_route(layout, train, goal))), (((2, 1, 0),), 7))
            self.assertEqual((reach(layout, train), can_turn_round(layout, train)), ((1, 2, 3, 4, 5, 12, 13), False))
            self.assertIs(judge_paper(layout, train, goal, paper), True)
            self.assertIs(judge_paper(layout, train, goal, as_list), False)
        self.assertEqual((layout, train, goal, paper, as_list), (TRACKS["with gaps"], (1, 0, 1), (13, 0, 1), before, ["least", [[1, 0, 1]], []]))
