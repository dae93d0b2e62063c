import unittest

from railshut.errors import BadJournal
from railshut.journal import replay
from railshut.runs import Run
from tests.floors import along, some_layouts
from tests.told_runs import led, some_deeds, told_of
from tests.tracks import BALLOON, FAR_BALLOON, OVAL, RING, ROUND, SIDING, TRACKS, WYE, ladder
from tests.variants import variants

SOME = (RING, ROUND, SIDING, WYE, OVAL, FAR_BALLOON, BALLOON, ladder(3), (), (None,), TRACKS["a row"]) + tuple(some_layouts(5, seed=131))


def all_of(run):
    """What can be seen of a run; and, by a run made again, what was ahead of each of its deeds."""
    return told_of(run) + (run.journal(), run.forecast(4))


def undone(run):
    """What a run was, back to the eldest deed that is kept."""
    stages = [told_of(run)]
    while run.undo():
        stages.append(told_of(run))
    return stages


class Case(unittest.TestCase):
    def refuse(self, place, layout, text):
        with self.assertRaises(BadJournal, msg=repr(text)) as raised:
            replay(layout, text)
        self.assertEqual(raised.exception.place, place, repr(text))


class Lines(Case):
    def test_as_they_are_written(self):
        run = Run(SIDING)
        run.add((0, 0, 2))
        run.toggle(9)
        run.tick()
        run.undo()
        run.add((9, 2, 0))
        self.assertEqual(run.journal(), "add 0 0 2\ntoggle 9\ntick\nundo\nadd 9 2 0\n")
        run = Run(ladder(10))
        run.toggle(18)
        run.add((22, 1, 0))
        self.assertEqual(run.journal(), "toggle 18\nadd 22 1 0\n")

    def test_each_is_done_again(self):
        for text, expected in (
            ("", ((), (), 0)), ("tick\n", ((), (), 1)), ("tick\nundo\n", ((), (), 0)), ("toggle 0\n", ((), (0,), 0)),
            ("toggle 9\ntoggle 0\ntoggle 9\n", ((), (0,), 0)), ("add 0 0 2\n", (((0, 0, 2),), (), 0)),
            ("add 0 0 1\ntick\nadd 0 0 2\ntick\n", (((2, 0, 1), (5, 1, 0)), (), 2)), ("toggle 0\nundo\nadd 0 2 0\n", (((0, 2, 0),), (), 0)),
        ):
            run = replay(SIDING, text)
            self.assertIsInstance(run, Run)
            self.assertEqual((told_of(run), run.journal()), (expected, text), text)


class Again(Case):
    def test_what_was_led_is_made_again(self):
        for at, layout in enumerate(SOME):
            run = Run(layout)
            for deed, words in some_deeds(layout, 120, 40 + at, ticks=0.5):
                led(run, deed, words)
            again = replay(layout, run.journal())
            self.assertEqual(all_of(again), all_of(run))
            self.assertEqual(undone(again), undone(run))
            self.assertEqual(again.journal(), run.journal())

    def test_cut_at_any_sign(self):
        for at, layout in enumerate(SOME):
            run, behind = Run(layout), {}
            behind[""] = all_of(run)
            for deed, words in some_deeds(layout, 60, 80 + at, ticks=0.3):
                led(run, deed, words)
                behind[run.journal()] = all_of(run)
            text = run.journal()
            for many in range(len(text) + 1):
                whole = text[:text.rfind("\n", 0, many) + 1]
                self.assertEqual(all_of(replay(layout, text[:many])), behind[whole], text[:many])

    def test_more_than_sixty_deeds(self):
        run = Run(RING)
        run.add((3, 0, 1))
        for _ in range(99):
            run.tick()
        text = run.journal()
        again = replay(RING, text)
        stages = undone(again)
        self.assertEqual((len(stages), stages[-1]), (61, (((2, 0, 1),), (), 39)))
        self.assertEqual(told_of(replay(RING, text + "undo\n" * 60))[2], 39)
        self.refuse(161, RING, text + "undo\n" * 61)
        self.refuse(161, RING, text + "undo\n" * 61 + "tick\n")

    def test_what_is_made_again_goes_on(self):
        run = replay(SIDING, "add 0 0 1\ntick\nta")
        self.assertEqual((run.undo(), run.journal(), run.add((9, 0, 1))), (True, "add 0 0 1\ntick\nundo\n", 1))
        self.assertEqual((run.tick(), run.toggle(0), run.trains()), (2, True, ((1, 1, 0), (4, 0, 1))))
        self.assertEqual(all_of(replay(SIDING, run.journal())), all_of(run))

    def test_two_of_one_text_share_nothing(self):
        one, other = replay(SIDING, "toggle 0\n"), replay(SIDING, "toggle 0\n")
        one.tick()
        self.assertEqual((other.clock(), other.journal()), (0, "toggle 0\n"))

    def test_what_is_no_whole_line_is_not_looked_at(self):
        for rest in ("tick", "add 0 0 1", "add 0", "undo", "nonsense", " ", "toggle 99", "tick\r", "add 0 0 1 ", "\t", "tick tick", "0", "-"):
            for text in ("", "tick\n", "add 0 0 1\ntick\n"):
                run = replay(SIDING, text + rest)
                self.assertEqual((run.journal(), run.clock()), (text, text.count("tick")), rest)


WRONG = (
    "", " ", "tick ", " tick", "Tick", "TICK", "tick 1", "tick\t", "tick\r", "ticks", "tic", "tick tick", "undo ", "undo 1", "Undo", "un do", "undo undo",
    "toggle", "toggle ", "toggle 00", "toggle 09", "toggle +9", "toggle  9", "toggle 9 ", " toggle 9", "toggle 9 0", "toggle 9.0", "toggle -0", "toggle -9",
    "toggle nine", "toggle 0x9", "toggle 9,", "toggle (9)", "toggle \u0669", "toggle \u00b2", "toggle 1_0", "toggle 1", "toggle 10", "toggle 99", "toggle -1",
    "toggle 1000", "toggle " + "9" * 5000, "toggle 9" + "0" * 20, "toggle\t9", "toggle\u00a09",
    "add", "add 0", "add 0 0", "add 0 0 ", "add 0 0 1 ", "add 0 0 1 0", "add  0 0 1", "add 0  0 1", "add 0,0,1", "add 00 0 1", "add 0 0 01", "add 0 +0 1",
    "add (0, 0, 1)", "add 0 0 1.", "Add 0 0 1", "add 0 0 one", "add 0 1 2", "add 0 0 3", "add 10 0 1", "add 99 0 1", "add -1 0 1", "add 0 0 -1", "add 1000 0 1",
    "add " + "0" * 3000 + " 0 1", "add " + "1" * 5000 + " 0 1", "add 0 0 \u0661", "add\t0 0 1", "add 0 0 1\x0btick", "add 0 0 1\u2028tick", "add 0 0 1\rtick",
    "branch", "forecast 3", "place S 0 0 0 0 0", "remove 0", "clock", "tick;", "#", "tick # one",
)


class WrongLines(Case):
    def test_lines_that_are_none_or_in_another_writing(self):
        for line in WRONG:
            self.refuse(1, SIDING, line + "\n")
            self.refuse(1, SIDING, line + "\ntick\n")
            self.refuse(3, SIDING, "tick\ntoggle 0\n" + line + "\nundo\n")
            self.refuse(2, SIDING, "tick\n" + line + "\n" + line + "\n")
            self.refuse(4, SIDING, "add 3 0 1\ntick\nundo\n" + line + "\nti")

    def test_lines_that_are_refused(self):
        for text, place in (
            ("undo\n", 1), ("tick\nundo\nundo\n", 3), ("tick\nundo\nundo\nnonsense\n", 3), ("add 0 0 1\nadd 0 2 0\n", 2), ("add 0 0 1\ntoggle 0\n", 2),
            ("add 1 0 1\nadd 2 0 1\nadd 3 0 1\nadd 4 0 1\n", 4), ("add 4 1 0\nadd 8 1 0\ntick\n", 3), ("add 3 0 1\nadd 4 1 0\ntick\ntick\n", 4),
            ("add 3 0 1\nadd 4 1 0\ntick\nundo\ntick\ntick\n", 6), ("tick\n" * 500 + "undo\n" * 61, 561), ("tick\n" * 9999 + "x\n", 10000),
        ):
            self.refuse(place, SIDING, text)
            self.refuse(place, SIDING, text + "tick\n")
            self.refuse(place, SIDING, text + "add 0")
        self.refuse(2, RING, "tick\ntoggle 0\n")
        self.refuse(1, (), "add 0 0 1\n")
        self.refuse(1, FAR_BALLOON, "add 0 0 1\n")
        self.refuse(1, FAR_BALLOON, "toggle 0\n")

    def test_the_first_one_is_told(self):
        self.refuse(2, SIDING, "tick\nundo \nnonsense\nundo\nundo\n")
        self.refuse(1, SIDING, "\n")
        self.refuse(1, SIDING, "\n\n")
        self.refuse(2, SIDING, "tick\n\n")
        self.refuse(2, SIDING, "tick\n\ntick\n")

    def test_a_journal_of_another_layout(self):
        run = Run(SIDING)
        run.add((9, 2, 0))
        run.toggle(0)
        self.refuse(1, RING, run.journal())
        self.refuse(2, along((0, 0, 0, 0, 0), "S" * 9) + (("Q", (40, 0, 0, 0, 0)),), run.journal())

    def test_the_journal_of_a_branch_begins_elsewhere(self):
        run = Run(SIDING)
        run.add((0, 0, 1))
        other = run.branch()
        other.toggle(9)
        self.assertEqual(told_of(replay(SIDING, other.journal())), ((), (9,), 0))


class ToldElsewhere(Case):
    def test_a_journal_leads_a_layout_laid_elsewhere_the_same_way(self):
        for layout in (SIDING, WYE, ladder(3)):
            run = Run(layout)
            for deed, words in some_deeds(layout, 60, 5):
                led(run, deed, words)
            for variant in variants(layout)[:2]:
                self.assertEqual(all_of(replay(variant.layout, run.journal())), all_of(run))


class Arguments(Case):
    def test_nothing_is_changed(self):
        layout, text = FAR_BALLOON, "add 1 0 2\ntoggle 12\n"
        self.assertEqual(all_of(replay(layout, text)), all_of(replay(layout, text)))
        self.assertEqual((layout, text), (TRACKS["with gaps"], "add 1 0 2\ntoggle 12\n"))
