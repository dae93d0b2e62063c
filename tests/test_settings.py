import unittest

from railshut.errors import BadTrain
from railshut.routes import shortest_route
from railshut.settings import least_setting
from tests.floors import some_layouts
from tests.model import HOME
from tests.tracks import (
    BALLOON, DUMBBELL, EIGHT, FAR_BALLOON, OVAL, RING, ROUND, SIDING, TRACKS, TWO_SIDINGS, UNEVEN, WYE, all_trains,
    choices, grown_layouts, ladder, ring_of_turnouts, some_pairs, stepped, trains_reached, turnouts,
)
from tests.variants import under_other_numbers, variants

# A ladder whose turnouts have their numbers in another order, so that the least of several settings lies elsewhere.
MIXED = tuple(under_other_numbers(ladder(4), seed)[0] for seed in range(6))
SOME = tuple(TRACKS.values()) + tuple(some_layouts(10, seed=53)) + grown_layouts(10, 5) + MIXED
NO_TRAINS = ((0, 1, 2), (0, 0, 3), (1, 1, 1), (99, 0, 1), (-1, 0, 1), (0, 0, 0))


def comes_to(layout, thrown, train, goal):
    """Whether the train, run with what is thrown alone, is the goal some time."""
    seen = []
    while train is not None and train not in seen:
        if train == goal:
            return True
        seen.append(train)
        train = stepped(layout, thrown, train)
    return False


def least_by_trial(layout, train, goal):
    """The first of all sets of turnouts, small ones ahead, then in order, that is a setting."""
    if train == goal:
        return ()
    # Behind an open way there is nothing that throwing could change.
    if goal not in trains_reached(layout, train):
        return None
    return next((thrown for thrown in choices(layout) if comes_to(layout, thrown, train, goal)), None)


class LeastSetting(unittest.TestCase):
    def test_told_ones(self):
        for layout, train, goal, expected in (
            (ROUND, (8, 1, 0), (0, 2, 0), ()), (ROUND, (7, 0, 1), (8, 0, 1), ()), (ROUND, (7, 0, 1), (1, 0, 1), (0,)),
            (ROUND, (7, 0, 1), (7, 0, 1), ()), (ROUND, (1, 0, 1), (0, 0, 2), (0,)), (ROUND, (8, 0, 1), (0, 0, 1), None),
            # On the turnout already it leaves as it will, whatever is thrown.
            (ROUND, (0, 0, 2), (2, 0, 1), ()), (ROUND, (0, 0, 1), (8, 0, 1), ()), (ROUND, (0, 0, 2), (8, 0, 1), ()),
            (ROUND, (0, 0, 2), (0, 0, 1), ()), (ROUND, (0, 0, 1), (0, 0, 2), None), (ROUND, (8, 1, 0), (8, 0, 1), None),
            (BALLOON, (15, 0, 1), (15, 1, 0), ()), (BALLOON, (15, 0, 1), (0, 1, 0), (0,)), (BALLOON, (15, 0, 1), (0, 2, 0), ()),
            (BALLOON, (15, 0, 1), (3, 1, 0), (0,)), (BALLOON, (15, 0, 1), (3, 0, 1), ()), (BALLOON, (15, 0, 1), (0, 0, 2), (0,)),
            (TWO_SIDINGS, (0, 0, 1), (19, 2, 0), (10,)), (TWO_SIDINGS, (1, 1, 0), (19, 1, 0), ()), (RING, (0, 0, 1), (0, 1, 0), None),
            (TWO_SIDINGS, (9, 0, 1), (0, 1, 0), ()), (TWO_SIDINGS, (19, 0, 1), (0, 2, 0), (9,)), (EIGHT, (0, 0, 1), (5, 1, 0), None),
            # Any one branch leads across a ladder; of several turnouts the one with the least number.
            (ladder(3), (8, 0, 1), (6, 0, 1), (0,)), (ladder(3), (1, 0, 1), (6, 0, 1), (2,)), (ladder(3), (1, 0, 2), (6, 0, 1), ()),
            (ladder(3), (8, 0, 1), (7, 0, 1), ()), (ladder(3), (8, 0, 1), (4, 2, 0), (1,)), (ladder(3), (6, 1, 0), (8, 1, 0), ()),
            (ladder(3), (6, 1, 0), (0, 1, 0), (4,)), (ladder(3), (6, 1, 0), (1, 1, 0), (5,)), (ladder(3), (6, 1, 0), (3, 0, 1), ()), (ladder(3), (7, 0, 1), (6, 0, 1), None),
        ):
            self.assertEqual(least_setting(layout, train, goal), expected, (train, goal))

    def test_fewer_turnouts_are_worth_more_steps(self):
        layout = UNEVEN + (("S", (-2, 0, 0, 0, 0)),)
        self.assertEqual(len(shortest_route(layout, (14, 0, 1), (13, 0, 1))), 9)
        self.assertEqual(shortest_route(layout, (14, 0, 1), (13, 0, 1))[1], (0, 0, 2))
        self.assertEqual(least_setting(layout, (14, 0, 1), (13, 0, 1)), ())
        self.assertEqual(least_setting(layout, (14, 0, 1), (7, 1, 0)), (0,))

    def test_from_a_train_to_itself(self):
        for layout in SOME:
            for train in all_trains(layout):
                self.assertEqual(least_setting(layout, train, train), ())

    def test_against_all_sets_of_turnouts(self):
        for layout in SOME:
            for train, goal in some_pairs(layout, 500):
                told = least_setting(layout, train, goal)
                self.assertEqual(told, least_by_trial(layout, train, goal), (layout, train, goal))
                if told is not None:
                    self.assertIs(type(told), tuple)
                    self.assertTrue(comes_to(layout, told, train, goal))

    def test_of_several_with_as_few_turnouts_the_first(self):
        found = set()
        for layout in MIXED:
            straights = [number for number, piece in enumerate(layout) if piece and piece[0] == "S"]
            for beginning in straights:
                for end in straights:
                    for train, goal in (((beginning, 0, 1), (end, 0, 1)), ((beginning, 1, 0), (end, 1, 0))):
                        settings = [thrown for thrown in choices(layout) if comes_to(layout, thrown, train, goal)]
                        fewest = [thrown for thrown in settings if len(thrown) == len(settings[0])]
                        if len(fewest) > 1 and fewest[0]:
                            self.assertEqual(least_setting(layout, train, goal), fewest[0])
                            found.add(fewest[0])
        self.assertGreater(len(found), 3)


class AtTheBound(unittest.TestCase):
    def test_layouts_of_24_pieces_with_many_turnouts(self):
        layout = ladder(10) + (None,)
        self.assertEqual((len(layout), len(turnouts(layout))), (24, 19))
        self.assertEqual(least_setting(layout, (22, 0, 1), (20, 0, 1)), (0,))
        self.assertEqual(least_setting(layout, (22, 0, 1), (21, 0, 1)), ())
        for number in range(10):
            # What is behind the branches ahead can be come to by those further on alone.
            self.assertEqual(least_setting(layout, (number, 0, 1), (20, 0, 1)), (number + 1,) if number < 9 else None)
            self.assertEqual(least_setting(layout, (22, 0, 1), (number, 0, 2)), (number,))
        # The other way the turnouts of the row beside lead back.
        for number in range(9):
            self.assertEqual(least_setting(layout, (20, 1, 0), (number + 1, 2, 0)), (11 + number,))

    def test_as_many_as_there_are_are_thrown(self):
        layout = ring_of_turnouts(8) + ring_of_turnouts(8, (40, 0, 0, 0, 3)) + ring_of_turnouts(8, (0, 0, 90, 0, 6))
        self.assertEqual((len(layout), len(turnouts(layout))), (24, 24))
        for first in (0, 8, 16):
            for many in range(1, 8):
                expected = tuple(range(first + 1, first + many + 1))
                self.assertEqual(least_setting(layout, (first, 0, 2), (first + many, 0, 2)), expected)
                self.assertEqual(least_setting(layout, (first, 0, 2), (first + many, 0, 1)), expected[:-1])
            self.assertEqual(least_setting(layout, (first + 5, 0, 2), (first + 1, 0, 2)), (first, first + 1, first + 6, first + 7))
            self.assertEqual(least_setting(layout, (first, 2, 0), (first + 1, 2, 0)), ())
            self.assertIsNone(least_setting(layout, (first, 0, 2), ((first + 8) % 24, 0, 2)))
            self.assertIsNone(least_setting(layout, (first, 0, 1), (first, 0, 2)))


class Refused(unittest.TestCase):
    def test_no_train(self):
        for layout in (RING, ROUND, SIDING, DUMBBELL, WYE):
            for wrong in NO_TRAINS + ((4, 0, 2), (4, 2, 3)):
                for train, goal in ((wrong, (1, 0, 1)), ((1, 0, 1), wrong), (wrong, wrong)):
                    with self.assertRaises(BadTrain, msg=(train, goal)) as raised:
                        least_setting(layout, train, goal)
                    self.assertEqual(raised.exception.reason, "no train")
        for layout in ((), (None,), FAR_BALLOON):
            with self.assertRaises(BadTrain) as raised:
                least_setting(layout, (0, 0, 1), (0, 0, 1))
            self.assertEqual(raised.exception.reason, "no train")


class ToldElsewhere(unittest.TestCase):
    def test_settings_are_the_same(self):
        for layout in (ROUND, BALLOON, TWO_SIDINGS, WYE, OVAL, FAR_BALLOON, ladder(3)):
            for variant in variants(layout):
                for train, goal in some_pairs(layout, 60):
                    first = least_setting(layout, train, goal)
                    other = least_setting(variant.layout, variant.train(train), variant.train(goal))
                    if variant.name.startswith("numbers") and first is not None:
                        # Of several with as few turnouts another one can be the first under other numbers.
                        self.assertEqual(len(other), len(first), variant.name)
                        self.assertTrue(comes_to(variant.layout, variant.numbers(first), variant.train(train), variant.train(goal)))
                    else:
                        self.assertEqual(other, first, variant.name)


class Arguments(unittest.TestCase):
    def test_no_function_changes_them(self):
        layout, train, goal = (("S", (-2, 0, 0, 0, 0)),) + SIDING[1:] + (SIDING[0],), (0, 0, 1), (5, 1, 0)
        before = (("S", (-2, 0, 0, 0, 0)),) + SIDING[1:] + (("P", HOME),)
        for _ in range(2):
            self.assertEqual(least_setting(layout, train, goal), (10,))
        self.assertEqual((layout, train, goal), (before, (0, 0, 1), (5, 1, 0)))
