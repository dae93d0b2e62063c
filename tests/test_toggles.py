import heapq
import random
import unittest

from railshut.errors import BadTrain
from railshut.toggles import leading, least_toggles
from tests.floors import some_layouts
from tests.tracks import (
    BALLOON, DUMBBELL, EIGHT, FAR_BALLOON, OVAL, RING, ROUND, SIDING, SLOPE, TRACKS, TWO_SIDINGS, UNEVEN, WYE,
    all_trains, choices, free, grown_layouts, ladder, ring_of_turnouts, some_pairs, stepped, turnouts,
)
from tests.variants import under_other_numbers, variants

SOME = (
    RING, ROUND, BALLOON, SIDING, EIGHT, DUMBBELL, WYE, OVAL, FAR_BALLOON, ladder(3), ring_of_turnouts(3), TWO_SIDINGS, UNEVEN, SLOPE, (), TRACKS["a row"],
    UNEVEN + (("S", (-2, 0, 0, 0, 0)),),
) + tuple(some_layouts(6, seed=61)) + grown_layouts(8, 7, 16) + tuple(under_other_numbers(ladder(3), seed)[0] for seed in range(2))
NO_TRAINS = ((0, 1, 2), (0, 0, 3), (1, 1, 1), (99, 0, 1), (-1, 0, 1), (0, 0, 0))


def ways_on(layout, thrown, train):
    """(deeds, thrown, train) of each step that can be made, with a toggle directly ahead of it or without."""
    ahead = stepped(layout, thrown, train)
    if ahead is None:
        return []
    found = [(("step",), thrown, ahead)]
    number, entry, _ = ahead
    if number in turnouts(layout) and entry == 0 and train[0] != number:
        other = tuple(sorted(set(thrown) ^ {number}))
        found.append(((number, "step"), other, stepped(layout, other, train)))
    return found


def leading_by_search(layout, thrown, train, goal):
    """The first of all leadings, through all trains with all that can be thrown."""
    waiting, done = [((0, 0, ()), train, thrown)], set()
    while waiting:
        (toggles, steps, told), here, now = heapq.heappop(waiting)
        if here == goal:
            return tuple("step" if deed == 99 else deed for deed in told)
        if (here, now) not in done:
            done.add((here, now))
            for deeds, then, ahead in ways_on(layout, now, here):
                more = tuple(99 if deed == "step" else deed for deed in deeds)
                heapq.heappush(waiting, ((toggles + len(deeds) - 1, steps + 1, told + more), ahead, then))
    return None


def followed(layout, thrown, train, told):
    """Where a leading leads, deed by deed."""
    now, toggled = set(thrown), None
    for deed in told:
        if deed == "step":
            ahead = stepped(layout, tuple(now), train)
            # What was toggled just now is what is come into, by its end 0.
            assert ahead is not None and (toggled is None or ahead[:2] == (toggled, 0)), (told, train)
            train, toggled = ahead, None
        else:
            assert deed in turnouts(layout) and toggled is None and train[0] != deed, (told, train)
            now, toggled = now ^ {deed}, deed
    assert toggled is None, told
    return train


def behind_the_branch(number):
    """The train that has just left a turnout of the long ladder by its branch."""
    return (10, 1, 0) if number == 0 else (10 + number, 2, 0)


class Leading(unittest.TestCase):
    def test_told_ones(self):
        step = "step"
        for layout, thrown, train, goal, expected in (
            (ROUND, (), (7, 0, 1), (1, 0, 1), (0, step, step)), (ROUND, (0,), (7, 0, 1), (1, 0, 1), (step, step)),
            (ROUND, (0,), (7, 0, 1), (8, 0, 1), (0, step, step)), (ROUND, (), (7, 0, 1), (8, 0, 1), (step, step)),
            (ROUND, (), (8, 1, 0), (8, 0, 1), None), (ROUND, (0,), (8, 0, 1), (0, 0, 1), None), (ROUND, (), (8, 0, 1), (8, 0, 1), ()),
            (ROUND, (), (8, 1, 0), (6, 1, 0), (step,) * 3), (ROUND, (0,), (8, 1, 0), (6, 1, 0), (step,) * 3),
            (ROUND, (), (6, 0, 1), (1, 0, 1), (step, 0, step, step)), (ROUND, (), (0, 0, 1), (0, 0, 2), None),
            (ROUND, (), (0, 0, 2), (0, 0, 1), (step,) * 8), (ROUND, (0,), (0, 0, 2), (0, 0, 1), (step,) * 7 + (0, step)),
            (ROUND, (), (6, 0, 1), (0, 0, 2), (step, 0, step)), (ROUND, (0,), (1, 0, 1), (1, 0, 1), ()),
            # Both ways across are as short, and each needs a toggle: a number is ahead of a step.
            (ladder(2), (), (6, 0, 1), (4, 0, 1), (0, step, step, step, step)), (ladder(2), (0,), (6, 0, 1), (4, 0, 1), (step,) * 4),
            (ladder(2), (1,), (6, 0, 1), (4, 0, 1), (step,) * 4), (ladder(2), (0, 1), (6, 0, 1), (4, 0, 1), (step,) * 4),
            (ladder(2), (0, 1), (6, 0, 1), (5, 0, 1), (0, step, 1, step, step)), (ladder(2), (0,), (6, 0, 1), (5, 0, 1), (0, step, step, step)),
            # Back: by the branch without a toggle, though it is as short straight on.
            (ladder(2), (3,), (4, 1, 0), (0, 1, 0), (step,) * 3), (ladder(2), (), (4, 1, 0), (0, 1, 0), (3, step, step, step)),
            (ladder(2), (), (4, 1, 0), (6, 1, 0), (step,) * 4), (ladder(2), (3,), (4, 1, 0), (6, 1, 0), (step,) * 4),
        ):
            self.assertEqual(leading(layout, thrown, train, goal), expected, (thrown, train, goal))
            number = None if expected is None else len(expected) - expected.count(step)
            self.assertEqual(least_toggles(layout, thrown, train, goal), number)

    def test_a_toggle_less_is_worth_many_steps(self):
        # Straight on it is a step more, by the branch a toggle.
        self.assertEqual(leading(UNEVEN, (), (0, 1, 0), (13, 0, 1)), None)
        self.assertEqual(leading(UNEVEN, (), (0, 0, 2), (13, 0, 1)), ("step",) * 7)
        layout = UNEVEN + (("S", (-2, 0, 0, 0, 0)),)
        self.assertEqual(leading(layout, (), (14, 0, 1), (13, 0, 1)), ("step",) * 9)
        self.assertEqual(leading(layout, (0,), (14, 0, 1), (13, 0, 1)), ("step",) * 8)
        self.assertEqual(least_toggles(layout, (), (14, 0, 1), (13, 0, 1)), 0)
        told = leading(OVAL, (), (23, 0, 1), (9, 2, 0))
        self.assertEqual(told, (0,) + ("step",) * 6)
        told = leading(DUMBBELL, (), (0, 0, 1), (0, 0, 2))
        self.assertEqual(followed(DUMBBELL, (), (0, 0, 1), told), (0, 0, 2))
        self.assertEqual(told.count("step"), len(told) - 1)
        layout = ladder(3)
        self.assertEqual(leading(layout, (2,), (8, 0, 1), (6, 0, 1)), ("step",) * 5)
        self.assertEqual(leading(layout, (2,), (8, 0, 1), (5, 1, 0)), (0,) + ("step",) * 4)

    def test_of_as_few_toggles_the_fewest_steps(self):
        # By the first rung it is a toggle, too, and one that would be told ahead of a step, but it is a step more.
        self.assertEqual(leading(SLOPE, (), (8, 0, 1), (7, 0, 1)), ("step", "step", 2, "step", "step", "step"))
        self.assertEqual(leading(SLOPE, (0,), (8, 0, 1), (7, 0, 1)), ("step",) * 6)
        self.assertEqual(leading(SLOPE, (2,), (8, 0, 1), (7, 0, 1)), ("step",) * 5)
        self.assertEqual(leading(SLOPE, (0, 2), (8, 0, 1), (7, 0, 1)), ("step",) * 6)
        self.assertEqual(leading(SLOPE, (), (8, 0, 1), (5, 0, 1)), (0,) + ("step",) * 4)

    def test_from_a_train_to_itself(self):
        for layout in SOME:
            for thrown in choices(layout)[:3] + choices(layout)[-1:]:
                for train in all_trains(layout):
                    self.assertEqual(leading(layout, thrown, train, train), ())
                    self.assertEqual(least_toggles(layout, thrown, train, train), 0)

    def test_against_a_search_through_all_that_can_be_thrown(self):
        for layout in SOME:
            thrown = choices(layout)
            for train, goal in some_pairs(layout, 100):
                for now in thrown if len(thrown) <= 4 else random.Random(len(layout)).sample(thrown, 4):
                    told = leading(layout, now, train, goal)
                    self.assertEqual(told, leading_by_search(layout, now, train, goal), (layout, now, train, goal))
                    toggles = least_toggles(layout, now, train, goal)
                    if told is None:
                        self.assertIsNone(toggles)
                    else:
                        self.assertIs(type(told), tuple)
                        self.assertEqual(toggles, sum(deed != "step" for deed in told))
                        self.assertEqual(followed(layout, now, train, told), goal)

    def test_there_is_one_exactly_if_there_is_a_route(self):
        for layout in SOME:
            for train, goal in some_pairs(layout, 100):
                there, new = [train], [train]
                while new:
                    new = [ahead for here in new for ahead in free(layout, here) if ahead not in there]
                    there.extend(new)
                for thrown in choices(layout)[:1] + choices(layout)[-1:]:
                    self.assertEqual(least_toggles(layout, thrown, train, goal) is None, goal not in there)


class AtTheBound(unittest.TestCase):
    def test_many_turnouts(self):
        layout = ring_of_turnouts(8) + ring_of_turnouts(8, (40, 0, 0, 0, 3)) + ring_of_turnouts(8, (0, 0, 90, 0, 6))
        self.assertEqual(len(turnouts(layout)), 24)
        for first in (0, 8, 16):
            expected = ()
            for many in range(1, 8):
                expected = expected + (first + many, "step")
                self.assertEqual(leading(layout, (), (first, 0, 2), (first + many, 0, 2)), expected)
                self.assertEqual(least_toggles(layout, (), (first, 0, 2), (first + many, 0, 2)), many)
                self.assertEqual(leading(layout, tuple(range(24)), (first, 0, 2), (first + many, 0, 2)), ("step",) * many)
                self.assertEqual(leading(layout, tuple(range(24)), (first, 0, 2), (first + many, 0, 1)), ("step",) * (many - 1) + (first + many, "step"))
                self.assertEqual(leading(layout, tuple(range(1, 24, 2)), (first, 2, 0), (first + 8 - many, 2, 0)), ("step",) * many)
            self.assertIsNone(leading(layout, (), (first, 0, 2), ((first + 8) % 24, 0, 2)))

    def test_a_long_ladder(self):
        layout = ladder(10) + (None,)
        self.assertEqual(leading(layout, (), (22, 0, 1), (20, 0, 1)), (0,) + ("step",) * 12)
        for number in range(10):
            self.assertEqual(leading(layout, (number,), (22, 0, 1), (20, 0, 1)), ("step",) * 12)
            expected = ("step",) * number + (number,) + ("step",) * 2 if number else (0, "step", "step")
            self.assertEqual(leading(layout, (), (22, 0, 1), behind_the_branch(number)), expected)


class Refused(unittest.TestCase):
    def refuse(self, reason, layout, thrown, train, goal):
        for function in (leading, least_toggles):
            with self.assertRaises(BadTrain, msg=(thrown, train, goal)) as raised:
                function(layout, thrown, train, goal)
            self.assertEqual(raised.exception.reason, reason, (thrown, train, goal))

    def test_no_turnout(self):
        for thrown in ((0, 0), (9, 0), (1,), (0, 1), (-1,), (10,), (99,), (0, 9, 9), (-10,), (0, 9, 10)):
            self.refuse("no turnout", SIDING, thrown, (0, 0, 1), (1, 1, 0))
        self.refuse("no turnout", RING, (0,), (0, 0, 1), (0, 0, 1))
        self.refuse("no turnout", FAR_BALLOON, (0,), (1, 0, 1), (1, 0, 1))
        self.refuse("no turnout", (), (0,), (0, 0, 1), (0, 0, 1))

    def test_no_train(self):
        for wrong in NO_TRAINS:
            for train, goal in ((wrong, (1, 0, 1)), ((1, 0, 1), wrong), (wrong, wrong)):
                self.refuse("no train", SIDING, (0,), train, goal)
                self.refuse("no train", ROUND, (), train, goal)
        self.refuse("no train", FAR_BALLOON, (), (0, 0, 1), (1, 0, 1))
        self.refuse("no train", FAR_BALLOON, (1, 12), (1, 0, 1), (6, 0, 1))

    def test_no_turnout_is_told_ahead_of_no_train(self):
        for train, goal in (((77, 0, 1), (1, 1, 0)), ((0, 0, 1), (0, 1, 2)), ((0, 0, 0), (0, 0, 0))):
            self.refuse("no turnout", SIDING, (1,), train, goal)


class ToldElsewhere(unittest.TestCase):
    def test_leadings_are_the_same(self):
        for layout in (ROUND, BALLOON, TWO_SIDINGS, WYE, OVAL, FAR_BALLOON, ladder(3)):
            for variant in variants(layout):
                for train, goal in some_pairs(layout, 30):
                    for thrown in choices(layout)[:2] + choices(layout)[-1:]:
                        first = leading(layout, thrown, train, goal)
                        other = leading(variant.layout, variant.numbers(thrown), variant.train(train), variant.train(goal))
                        if first is not None:
                            first = tuple("step" if deed == "step" else variant.number(deed) for deed in first)
                        self.assertEqual(other, first, variant.name)


class Arguments(unittest.TestCase):
    def test_no_function_changes_them(self):
        layout, thrown, train, goal = FAR_BALLOON, (1, 12), (1, 1, 0), (1, 1, 0)
        for _ in range(2):
            self.assertEqual((leading(layout, thrown, train, goal), least_toggles(layout, thrown, (1, 0, 1), (2, 1, 0))), ((), 0))
        self.assertEqual((layout, thrown, train, goal), (TRACKS["with gaps"], (1, 12), (1, 1, 0), (1, 1, 0)))
