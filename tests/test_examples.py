"""The examples of the interface, as they stand in DOC.md."""

import doctest
import unittest

SURDS = """
>>> from railshut.surds import east, north, surd_compared
>>> east((0, 2, -2, 0)), north((0, 2, -2, 0)), surd_compared((3, 0), (0, 2)), surd_compared((-7, 5), (0, 0))
((0, 2), (-4, 2), 1, 1)
"""

ROWS = """
>>> from railshut.rows import backwards, lead, shuts, tally, turn
>>> lead((0, 0, 0, 0, 0), "L"), lead((0, 0, 0, 0, 0), "SR"), shuts("LLLLLLLL"), backwards("LLRS"), turn("LLRS"), tally("HS")
((0, 0, 2, -2, 1), (2, 2, -2, 0, 7), True, 'SLRR', 1, (3, 0, 0, 0))
"""

EXAMPLES = {"surds": SURDS, "rows": ROWS}


class Examples(unittest.TestCase):
    def test_each_gives_what_the_document_tells(self):
        for name, text in EXAMPLES.items():
            with self.subTest(example=name):
                example = doctest.DocTestParser().get_doctest(text, {}, name, None, None)
                told = []
                results = doctest.DocTestRunner(verbose=False).run(example, out=told.append)
                self.assertEqual(results.failed, 0, "".join(told))
                self.assertEqual(results.attempted, text.count(">>>"))
