"""What the document promises at its head, over the whole program: the parts are held against each other here."""

import itertools
import unittest

from railshut.boxes import loops_of
from railshut.closures import is_closure, shortest_closure
from railshut.errors import Collision
from railshut.floorlogs import FloorLog, replay_floor
from railshut.journal import replay
from railshut.layouts import Layout
from railshut.layouttext import layout_text, parse_layout
from railshut.meetings import first_meeting
from railshut.papertext import paper_text, parse_paper
from railshut.poses import HOME
from railshut.routes import can_turn_round, judge_paper, make_paper, reach, shortest_route
from railshut.rows import shuts, tally, turn
from railshut.rowtext import read_short, short_text
from railshut.runs import Run
from railshut.settings import least_setting
from railshut.sides import judge_sides, make_sides
from railshut.surveys import survey
from railshut.toggles import leading, least_toggles
from railshut.trains import cycle, run_train, trains_of
from tests.floors import some_layouts
from tests.model import OPEN_ROWS, SHUT_ROWS, all_rows, some_rows
from tests.told_runs import led, some_deeds
from tests.tracks import EIGHT, OVAL, RING, ROUND, SIDING, TRACKS, UNEVEN, WYE, some_pairs

ROWS = tuple(all_rows(5)) + tuple(some_rows(200)) + SHUT_ROWS + OPEN_ROWS
LAYOUTS = tuple(TRACKS.values()) + tuple(some_layouts(15, seed=173))
BOX = (3, 3, 16)


class Rows(unittest.TestCase):
    def test_a_row_shuts_just_if_its_turn_and_its_tally_say_so(self):
        for row in ROWS:
            self.assertIs(shuts(row), turn(row) % 8 == 0 and tally(row) == (0, 0, 0, 0), row)

    def test_a_row_that_shuts_brings_a_train_round(self):
        for row in loops_of(BOX, 10) + tuple(row for row in SHUT_ROWS if len(row) <= 24):
            log = FloorLog()
            try:
                numbers = log.lay(HOME, row)
            except ValueError:
                # It comes to a pose twice.
                continue
            layout = log.layout()
            for train in ((0, 0, 1), (0, 1, 0)):
                self.assertEqual(cycle(layout, (), train), (0, len(row)), row)
                self.assertEqual(reach(layout, train), numbers)
            self.assertEqual(survey(layout), (((), 0, (len(row), len(row))),))
            self.assertIs(judge_sides(layout, make_sides(layout)), True)
            self.assertEqual(log.journal(), f"lay 0 0 0 0 0 {short_text(row)}\n")
            self.assertEqual(replay_floor(log.journal()).layout(), parse_layout(layout_text(layout)))
            self.assertEqual(read_short(short_text(row)), row)

    def test_a_row_with_its_closure_shuts_on_the_floor(self):
        for row in ("LLLLSLL", "LLLLLLL", "RRRRR", "SRRSRRSRR", "LLLLS", "HLLLLH"):
            closure = shortest_closure(row, (2, 2, 2))
            for other in all_rows(3):
                if is_closure(row, (2, 2, 2), other):
                    self.assertLessEqual((len(closure), closure), (len(other), other))
            if closure is not None:
                floor = Layout()
                floor.lay(HOME, row + closure)
                self.assertIs(floor.is_shut(), True)


class LeastOnes(unittest.TestCase):
    def test_what_is_led_by_a_setting_by_toggles_and_by_a_route(self):
        for layout in LAYOUTS:
            for train, goal in some_pairs(layout, 60):
                route, setting = shortest_route(layout, train, goal), least_setting(layout, train, goal)
                # There is one of each, or of none: a route needs no turnout both ways.
                self.assertEqual(route is None, setting is None)
                self.assertEqual(least_toggles(layout, (), train, goal) is None, route is None)
                if route is not None:
                    self.assertEqual(least_toggles(layout, setting, train, goal), 0)
                    told = leading(layout, (), train, goal)
                    # Toggled on the way or thrown ahead, it is as many.
                    self.assertEqual((least_toggles(layout, (), train, goal), len(told) - told.count("step")), (len(setting),) * 2)
                    self.assertGreaterEqual(told.count("step"), len(route) - 1)
                    steps = leading(layout, setting, train, goal).count("step")
                    self.assertEqual(run_train(layout, setting, train, steps), goal)

    def test_papers_say_what_is_so(self):
        for layout in LAYOUTS:
            for train, goal in some_pairs(layout, 40):
                paper = make_paper(layout, train, goal)
                self.assertIs(judge_paper(layout, train, goal, parse_paper(paper_text(paper))), True)
                self.assertEqual(paper[0] == "never", least_setting(layout, train, goal) is None)

    def test_with_sides_no_train_turns_round(self):
        for layout in LAYOUTS:
            if make_sides(layout) is not None:
                for train in trains_of(layout):
                    self.assertIs(can_turn_round(layout, train), False)
                    self.assertIsNone(least_setting(layout, train, (train[0], train[2], train[1])))


class Forecasts(unittest.TestCase):
    def test_whatever_run_is_led_its_forecast_comes_true(self):
        for at, layout in enumerate(LAYOUTS):
            run = Run(layout)
            for deed, told in some_deeds(layout, 60, 600 + at, ticks=0.2):
                led(run, deed, told)
                forecast = run.forecast(6)
                again = replay(layout, run.journal())
                for pieces in forecast[:-1]:
                    self.assertEqual(tuple(train[0] for train in again.trains()), pieces)
                    again.tick()
                self.assertEqual(tuple(train[0] for train in again.trains()), forecast[-1])
                if len(forecast) < 7:
                    with self.assertRaises(Collision):
                        again.tick()

    def test_a_run_of_two_trains_collides_where_they_meet(self):
        for layout in (RING, ROUND, SIDING, EIGHT, OVAL, UNEVEN, WYE):
            for (one, other), thrown in itertools.product(some_pairs(layout, 60), ((), None)):
                run = Run(layout)
                if thrown is None:
                    thrown = tuple(number for number, piece in enumerate(layout) if piece and piece[0] in "PQ")
                for number in thrown:
                    run.toggle(number)
                if one[0] == other[0]:
                    self.assertEqual(first_meeting(layout, thrown, one, other, 30), 0)
                    continue
                run.add(one)
                run.add(other)
                met = first_meeting(layout, thrown, one, other, 30)
                if met is not None:
                    self.assertEqual(len(run.forecast(30)), met)
                    for _ in range(met - 1):
                        self.assertEqual(run.tick(), 2)
                    with self.assertRaises(Collision):
                        run.tick()
