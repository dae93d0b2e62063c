"""The examples of the interface, as they stand in DOC.md, and those of README.md."""

import doctest
import pathlib
import unittest

SURDS = """
>>> from railshut.surds import east, north, surd_compared
>>> east((0, 2, -2, 0)), north((0, 2, -2, 0)), surd_compared((3, 0), (0, 2)), surd_compared((-7, 5), (0, 0))
((0, 2), (-4, 2), 1, 1)
"""

ROWS = """
>>> from railshut.rows import backwards, lead, shuts, tally, turn
>>> lead((0, 0, 0, 0, 0), "L"), lead((0, 0, 0, 0, 0), "SR"), shuts("LLLLLLLL"), backwards("LLRS"), turn("LLRS"), tally("HS")
((0, 0, 2, -2, 1), (2, 2, -2, 0, 7), True, 'SLRR', 1, (3, 0, 0, 0))
"""

ROWTEXT = """
>>> from railshut.rowtext import read_short, short_text
>>> short_text("LLLLSLLLLS"), read_short("H2R"), short_text("")
('L4SL4S', 'HHR', '')
"""

LOOPS = """
>>> from railshut.loops import least_word, same_loop, symmetry
>>> least_word("SLLLLSLLLL"), same_loop("RRRRSRRRRS", "LLLLSLLLLS"), symmetry("LLLLSLLLLS"), symmetry("LLLLLLLL")
('LLLLSLLLLS', True, 4, 16)
"""

CLOSURES = """
>>> from railshut.closures import closure_count, shortest_closure
>>> shortest_closure("LLLLLLL", (0, 0, 3)), shortest_closure("LLLLSLL", (1, 0, 3)), shortest_closure("LLLLS", (3, 0, 3)), closure_count("LLLLLL", (2, 0, 2))
('L', 'LLS', None, 1)
"""

BOXES = """
>>> from railshut.boxes import loops_of, shut_count
>>> loops_of((0, 2, 8), 10), loops_of((2, 0, 8), 10), shut_count(7), shut_count(8)
(('LLLLLLLL', 'HLLLLHLLLL'), ('LLLLLLLL', 'LLLLSLLLLS'), 0, 2)
"""

LAYOUTS = """
>>> from railshut.layouts import Layout
>>> floor = Layout()
>>> floor.place("P", (0, 0, 0, 0, 0)), floor.lay((2, 0, 0, 0, 0), "RSSLLLSSLLSLSS")[-1], floor.place("S", (-2, 0, 0, 0, 0))
(0, 14, 15)
>>> floor.open_ends(), floor.joined(0, 1), floor.joined(0, 2), floor.islands() == (tuple(range(16)),), floor.undo(), floor.open_ends()
(((15, 0),), (1, 1), (14, 1), True, True, ((0, 0),))
"""

LAYOUTTEXT = """
>>> from railshut.layouttext import layout_text, parse_layout
>>> parse_layout(";S0,0,-2,0,7;"), layout_text((("H", (0, 0, 0, 0, 0)), None))
((None, ('S', (0, 0, -2, 0, 7))), 'H0,0,0,0,0;;')

>>> from railshut.layouttext import parse_layout
>>> parse_layout("S0,0,0,0,0;S0,0,0,0,0;")
raises BadLayout
"""

MOTIONS = """
>>> from railshut.layouts import Layout
>>> from railshut.motions import alike, motions
>>> floor = Layout()
>>> floor.lay((0, 0, 0, 0, 0), "LLLLSLLLLS")[-1], len(motions(floor.layout())), alike(floor.layout())
(9, 2, ((0, 5), (1, 6), (2, 7), (3, 8), (4, 9)))
"""

JOININGS = """
>>> from railshut.joinings import shortest_joining
>>> from railshut.layouts import Layout
>>> floor = Layout()
>>> floor.lay((0, 0, 0, 0, 0), "LLLLSLL")[-1], shortest_joining(floor.layout(), (6, 1), (0, 0), (1, 0, 3))
(6, 'LLS')
"""

BEGINNING = """
>>> from railshut.closures import shortest_closure
>>> from railshut.layouts import Layout
>>> from railshut.routes import shortest_route
>>> from railshut.trains import cycle
>>> shortest_closure("LLLLSLL", (1, 0, 3))
'LLS'
>>> floor = Layout()
>>> floor.lay((0, 0, 0, 0, 0), "LLLLSLLLLS"), floor.is_shut()
((0, 1, 2, 3, 4, 5, 6, 7, 8, 9), True)
>>> cycle(floor.layout(), (), (0, 0, 1)), shortest_route(floor.layout(), (8, 0, 1), (0, 0, 1))
((0, 10), ((8, 0, 1), (9, 0, 1), (0, 0, 1)))
"""

INVENTORIES = """
>>> from railshut.inventories import fullest_packing, left_of, pieces_of_row
>>> pieces_of_row("LLSR"), left_of((1, 2, 8), "LLS"), fullest_packing((3, 2, 17))
((1, 0, 3, 0, 0, 0), (0, 2, 6), ('HLLLLHLLLL', 'LLLLSLLLLS'))
"""

EXTENTS = """
>>> from railshut.extents import extent, fits_on, least_turn, size
>>> straight = (("S", (0, 0, 0, 0, 2)),)
>>> extent(straight), size(straight), fits_on(straight, 2, 1), least_turn(straight, 2, 1), least_turn((("S", (0, 0, 0, 0, 1)),), 1, 1)
(((0, 0), (0, 0), (0, 0), (4, 0)), ((0, 0), (4, 0)), False, 2, None)
"""

TRAINS = """
>>> from railshut.layouts import Layout
>>> from railshut.trains import cycle, run_train, step_train
>>> floor = Layout()
>>> floor.place("P", (0, 0, 0, 0, 0)), floor.lay((0, 0, 2, -2, 1), "LLLLLLL")[-1], floor.place("S", (2, 0, 0, 0, 0))
(0, 7, 8)
>>> step_train(floor.layout(), (), (8, 1, 0)), run_train(floor.layout(), (), (8, 0, 1), 1), cycle(floor.layout(), (0,), (8, 1, 0))
((0, 1, 0), None, (2, 8))
"""

PAPERTEXT = """
>>> from railshut.papertext import paper_text, parse_paper
>>> paper_text(("least", ((0, 0, 1), (1, 0, 1)), (((0, 0, 1), 1),))), parse_paper("never\\ntrain 3 1 0")
('least\\nroute 0 0 1\\nroute 1 0 1\\nnumber 0 0 1 1', ('never', ((3, 1, 0),)))

>>> from railshut.papertext import parse_paper
>>> parse_paper("least\\nnumber 0 0 1 1")
raises BadTrain
"""

SIDES = """
>>> from railshut.layouts import Layout
>>> from railshut.routes import can_turn_round, reach, shortest_route
>>> from railshut.sides import make_sides
>>> floor = Layout()
>>> floor.lay((0, 0, 0, 0, 0), "LLLLLLLL")[-1], make_sides(floor.layout())[:2], can_turn_round(floor.layout(), (0, 0, 1))
(7, ((0, 0, 1), (1, 0, 1)), False)
>>> shortest_route(floor.layout(), (0, 0, 1), (2, 0, 1)), reach(floor.layout(), (0, 0, 1))
(((0, 0, 1), (1, 0, 1), (2, 0, 1)), (0, 1, 2, 3, 4, 5, 6, 7))
"""

TOGGLES = """
>>> from railshut.layouts import Layout
>>> from railshut.toggles import leading, least_toggles
>>> floor = Layout()
>>> floor.place("P", (0, 0, 0, 0, 0)), floor.lay((0, 0, 2, -2, 1), "LLLLLLL")[-1], floor.place("S", (2, 0, 0, 0, 0))
(0, 7, 8)
>>> leading(floor.layout(), (), (7, 0, 1), (1, 0, 1)), least_toggles(floor.layout(), (0,), (7, 0, 1), (8, 0, 1)), least_toggles(floor.layout(), (), (8, 1, 0), (8, 0, 1))
((0, 'step', 'step'), 1, None)
"""

SURVEYS = """
>>> from railshut.layouts import Layout
>>> from railshut.surveys import survey
>>> floor = Layout()
>>> floor.lay((0, 0, 0, 0, 0), "LLLLLLLL")[-1], survey(floor.layout())
(7, (((), 0, (8, 8)),))
"""

EXCHANGES = """
>>> from railshut.exchanges import exchange_plan, exchange_steps
>>> from railshut.layouts import Layout
>>> floor = Layout()
>>> floor.lay((0, 0, 0, 0, 0), "LLLLLLLL")[-1]
7
>>> exchange_steps(floor.layout(), (0, 0, 1), (4, 0, 1)), exchange_plan(floor.layout(), (0, 0, 1), (4, 0, 1))[:3]
(8, ((0, 1), (0, 2), (0, 3)))
"""

RUNS = """
>>> from railshut.layouts import Layout
>>> from railshut.runs import Run
>>> floor = Layout()
>>> floor.place("P", (0, 0, 0, 0, 0)), floor.lay((2, 0, 0, 0, 0), "RSSLLLSSLLSLSS")[-1], floor.place("S", (-2, 0, 0, 0, 0))
(0, 14, 15)
>>> run = Run(floor.layout())
>>> run.add((15, 0, 1)), run.add((14, 1, 0)), run.forecast(2), len(run.forecast(99)), run.tick(), run.clock()
(0, 1, ((15, 14), (0, 13), (1, 12)), 8, 2, 1)
"""

BLOCKS = """
>>> from railshut.blocks import BlockRun
>>> from railshut.layouts import Layout
>>> floor = Layout()
>>> floor.lay((0, 0, 0, 0, 0), "LLLLLLLL")[-1]
7
>>> run = BlockRun(floor.layout(), ((0, 1), (2, 3)))
>>> run.add((0, 0, 1)), run.add((2, 0, 1)), run.tick(), run.tick(), run.trains(), run.is_stuck()
(0, 1, 2, 1, ((1, 0, 1), (4, 0, 1)), False)
"""

FLOORLOGS = """
>>> from railshut.floorlogs import FloorLog, replay_floor
>>> floor = FloorLog()
>>> floor.place("P", (0, 0, 0, 0, 0)), floor.lay((2, 0, 0, 0, 0), "SSL"), floor.remove(2), floor.undo()
(0, (1, 2, 3), None, True)
>>> floor.journal(), replay_floor(floor.journal()).layout() == floor.layout()
('place P 0 0 0 0 0\\nlay 2 0 0 0 0 S2L\\nremove 2\\nundo\\n', True)
"""

EXAMPLES = {
    "beginning": BEGINNING, "surds": SURDS, "rows": ROWS, "rowtext": ROWTEXT, "loops": LOOPS, "closures": CLOSURES, "boxes": BOXES,
    "layouts": LAYOUTS, "layouttext": LAYOUTTEXT, "motions": MOTIONS, "joinings": JOININGS,
    "inventories": INVENTORIES, "extents": EXTENTS, "trains": TRAINS, "papertext": PAPERTEXT,
    "sides": SIDES, "toggles": TOGGLES, "surveys": SURVEYS, "exchanges": EXCHANGES, "runs": RUNS, "blocks": BLOCKS,
    "floorlogs": FLOORLOGS,
}

# What the document tells as "raises NAME", in the words that doctest knows; it does not look at the module here.
RAISES = "Traceback (most recent call last):\n    ...\nrailshut.errors."


class Examples(unittest.TestCase):
    def run_example(self, name, text):
        words = text.replace("\nraises ", "\n" + RAISES)
        example = doctest.DocTestParser().get_doctest(words, {}, name, None, None)
        told = []
        runner = doctest.DocTestRunner(verbose=False, optionflags=doctest.IGNORE_EXCEPTION_DETAIL)
        results = runner.run(example, out=told.append)
        self.assertEqual(results.failed, 0, "".join(told))
        self.assertEqual(results.attempted, text.count(">>>"))

    def test_each_gives_what_the_document_tells(self):
        for name, text in EXAMPLES.items():
            with self.subTest(example=name):
                self.run_example(name, text)

    def test_those_of_the_readme(self):
        readme = pathlib.Path(__file__).resolve().parent.parent / "README.md"
        examples = [part for part in readme.read_text("utf-8").split("```") if ">>>" in part]
        self.assertTrue(examples)
        for number, text in enumerate(examples):
            with self.subTest(example=number):
                self.run_example(f"README.md, {number}", text)
