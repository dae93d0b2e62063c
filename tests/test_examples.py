"""The examples of the interface, as they stand in DOC.md, and those of README.md."""

import doctest
import pathlib
import unittest

SURDS = """
>>> from railshut.surds import east, north, surd_compared
>>> east((0, 2, -2, 0)), north((0, 2, -2, 0)), surd_compared((3, 0), (0, 2)), surd_compared((-7, 5), (0, 0))
((0, 2), (-4, 2), 1, 1)
"""

ROWS = """
>>> from railshut.rows import backwards, lead, shuts, tally, turn
>>> lead((0, 0, 0, 0, 0), "L"), lead((0, 0, 0, 0, 0), "SR"), shuts("LLLLLLLL"), backwards("LLRS"), turn("LLRS"), tally("HS")
((0, 0, 2, -2, 1), (2, 2, -2, 0, 7), True, 'SLRR', 1, (3, 0, 0, 0))
"""

ROWTEXT = """
>>> from railshut.rowtext import read_short, short_text
>>> short_text("LLLLSLLLLS"), read_short("H2R"), short_text("")
('L4SL4S', 'HHR', '')
"""

LOOPS = """
>>> from railshut.loops import least_word, same_loop, symmetry
>>> least_word("SLLLLSLLLL"), same_loop("RRRRSRRRRS", "LLLLSLLLLS"), symmetry("LLLLSLLLLS"), symmetry("LLLLLLLL")
('LLLLSLLLLS', True, 4, 16)
"""

CLOSURES = """
>>> from railshut.closures import closure_count, shortest_closure
>>> shortest_closure("LLLLLLL", (0, 0, 3)), shortest_closure("LLLLSLL", (1, 0, 3)), shortest_closure("LLLLS", (3, 0, 3)), closure_count("LLLLLL", (2, 0, 2))
('L', 'LLS', None, 1)
"""

BOXES = """
>>> from railshut.boxes import loops_of, shut_count
>>> loops_of((0, 2, 8), 10), loops_of((2, 0, 8), 10), shut_count(7), shut_count(8)
(('LLLLLLLL', 'HLLLLHLLLL'), ('LLLLLLLL', 'LLLLSLLLLS'), 0, 2)
"""

LAYOUTS = """
>>> from railshut.layouts import Layout
>>> floor = Layout()
>>> floor.place("P", (0, 0, 0, 0, 0)), floor.lay((2, 0, 0, 0, 0), "RSSLLLSSLLSLSS")[-1], floor.place("S", (-2, 0, 0, 0, 0))
(0, 14, 15)
>>> floor.open_ends(), floor.joined(0, 1), floor.joined(0, 2), floor.islands() == (tuple(range(16)),), floor.undo(), floor.open_ends()
(((15, 0),), (1, 1), (14, 1), True, True, ((0, 0),))
"""

LAYOUTTEXT = """
>>> from railshut.layouttext import layout_text, parse_layout
>>> parse_layout(";S0,0,-2,0,7;"), layout_text((("H", (0, 0, 0, 0, 0)), None))
((None, ('S', (0, 0, -2, 0, 7))), 'H0,0,0,0,0;;')

>>> from railshut.layouttext import parse_layout
>>> parse_layout("S0,0,0,0,0;S0,0,0,0,0;")
raises BadLayout
"""

MOTIONS = """
>>> from railshut.layouts import Layout
>>> from railshut.motions import alike, motions
>>> floor = Layout()
>>> floor.lay((0, 0, 0, 0, 0), "LLLLSLLLLS")[-1], len(motions(floor.layout())), alike(floor.layout())
(9, 2, ((0, 5), (1, 6), (2, 7), (3, 8), (4, 9)))
"""

JOININGS = """
>>> from railshut.joinings import shortest_joining
>>> from railshut.layouts import Layout
>>> floor = Layout()
>>> floor.lay((0, 0, 0, 0, 0), "LLLLSLL")[-1], shortest_joining(floor.layout(), (6, 1), (0, 0), (1, 0, 3))
(6, 'LLS')
"""

EXAMPLES = {
    "surds": SURDS, "rows": ROWS, "rowtext": ROWTEXT, "loops": LOOPS, "closures": CLOSURES, "boxes": BOXES,
    "layouts": LAYOUTS, "layouttext": LAYOUTTEXT, "motions": MOTIONS, "joinings": JOININGS,
}

# What the document tells as "raises NAME", in the words that doctest knows; it does not look at the module here.
RAISES = "Traceback (most recent call last):\n    ...\nrailshut.errors."


class Examples(unittest.TestCase):
    def run_example(self, name, text):
        words = text.replace("\nraises ", "\n" + RAISES)
        example = doctest.DocTestParser().get_doctest(words, {}, name, None, None)
        told = []
        runner = doctest.DocTestRunner(verbose=False, optionflags=doctest.IGNORE_EXCEPTION_DETAIL)
        results = runner.run(example, out=told.append)
        self.assertEqual(results.failed, 0, "".join(told))
        self.assertEqual(results.attempted, text.count(">>>"))

    def test_each_gives_what_the_document_tells(self):
        for name, text in EXAMPLES.items():
            with self.subTest(example=name):
                self.run_example(name, text)

    def test_those_of_the_readme(self):
        readme = pathlib.Path(__file__).resolve().parent.parent / "README.md"
        examples = [part for part in readme.read_text("utf-8").split("```") if ">>>" in part]
        self.assertTrue(examples)
        for number, text in enumerate(examples):
            with self.subTest(example=number):
                self.run_example(f"README.md, {number}", text)
