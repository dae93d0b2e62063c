"""The examples of the interface, as they stand in DOC.md."""

import doctest
import unittest

SURDS = """
>>> from railshut.surds import east, north, surd_compared
>>> east((0, 2, -2, 0)), north((0, 2, -2, 0)), surd_compared((3, 0), (0, 2)), surd_compared((-7, 5), (0, 0))
((0, 2), (-4, 2), 1, 1)
"""

ROWS = """
>>> from railshut.rows import backwards, lead, shuts, tally, turn
>>> lead((0, 0, 0, 0, 0), "L"), lead((0, 0, 0, 0, 0), "SR"), shuts("LLLLLLLL"), backwards("LLRS"), turn("LLRS"), tally("HS")
((0, 0, 2, -2, 1), (2, 2, -2, 0, 7), True, 'SLRR', 1, (3, 0, 0, 0))
"""

ROWTEXT = """
>>> from railshut.rowtext import read_short, short_text
>>> short_text("LLLLSLLLLS"), read_short("H2R"), short_text("")
('L4SL4S', 'HHR', '')
"""

LOOPS = """
>>> from railshut.loops import least_word, same_loop, symmetry
>>> least_word("SLLLLSLLLL"), same_loop("RRRRSRRRRS", "LLLLSLLLLS"), symmetry("LLLLSLLLLS"), symmetry("LLLLLLLL")
('LLLLSLLLLS', True, 4, 16)
"""

CLOSURES = """
>>> from railshut.closures import closure_count, shortest_closure
>>> shortest_closure("LLLLLLL", (0, 0, 3)), shortest_closure("LLLLSLL", (1, 0, 3)), shortest_closure("LLLLS", (3, 0, 3)), closure_count("LLLLLL", (2, 0, 2))
('L', 'LLS', None, 1)
"""

BOXES = """
>>> from railshut.boxes import loops_of, shut_count
>>> loops_of((0, 2, 8), 10), loops_of((2, 0, 8), 10), shut_count(7), shut_count(8)
(('LLLLLLLL', 'HLLLLHLLLL'), ('LLLLLLLL', 'LLLLSLLLLS'), 0, 2)
"""

EXAMPLES = {
    "surds": SURDS, "rows": ROWS, "rowtext": ROWTEXT, "loops": LOOPS, "closures": CLOSURES, "boxes": BOXES,
}


class Examples(unittest.TestCase):
    def test_each_gives_what_the_document_tells(self):
        for name, text in EXAMPLES.items():
            with self.subTest(example=name):
                example = doctest.DocTestParser().get_doctest(text, {}, name, None, None)
                told = []
                results = doctest.DocTestRunner(verbose=False).run(example, out=told.append)
                self.assertEqual(results.failed, 0, "".join(told))
                self.assertEqual(results.attempted, text.count(">>>"))
