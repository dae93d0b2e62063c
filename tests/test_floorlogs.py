import random
import unittest

from railshut.errors import BadJournal, BadPiece
from railshut.floorlogs import FloorLog, replay_floor
from railshut.layouts import Layout
from tests.floors import ToldFloor, along, some_deed, why_not
from tests.model import HOME
from tests.test_rowtext import TEXTS


def short(row):
    """The short text of a row, letter by letter."""
    text, many = "", 0
    for at, letter in enumerate(row):
        many += 1
        if row[at + 1:at + 2] != letter:
            text += letter + (str(many) if many > 1 else "")
            many = 0
    return text


def line_of(deed, told):
    if deed == "place":
        return "place {} {} {} {} {} {}\n".format(told[0], *told[1])
    if deed == "lay":
        return "lay {} {} {} {} {} {}\n".format(*told[0], short(told[1]))
    return " ".join([deed] + [str(number) for number in told]) + "\n"


def led(log, deed, told):
    """What a deed gives; the reason, where it is refused."""
    try:
        return getattr(log, deed)(*told)
    except BadPiece as refused:
        return refused.reason


def told_done(told, deed, words):
    """Does the deed on a told floor; whether it was done."""
    if deed == "remove":
        return told.remove(*words) is None
    if deed == "undo":
        return told.undo()
    return not isinstance(told.put(along(*words) if deed == "lay" else (words,)), str)


def led_floor(seed, deeds=30):
    """A floor log led by many deeds, what they gave, and the layout behind each beginning of the journal it must have."""
    pick = random.Random(seed)
    log, told, text, behind, answers = FloorLog(), ToldFloor(), "", {"": ()}, []
    for _ in range(deeds):
        deed, words = some_deed(pick, told.layout())
        answers.append(led(log, deed, words))
        if told_done(told, deed, words):
            text += line_of(deed, words)
            behind[text] = told.layout()
        assert (log.journal(), log.layout()) == (text, told.layout()), (text, deed, words)
    return log, behind, answers


class Case(unittest.TestCase):
    def refuse(self, place, text):
        with self.assertRaises(BadJournal, msg=repr(text)) as raised:
            replay_floor(text)
        self.assertEqual(raised.exception.place, place, repr(text))


class Deeds(Case):
    def test_a_new_one(self):
        log = FloorLog()
        self.assertEqual((log.layout(), log.journal(), log.undo(), log.journal()), ((), "", False, ""))

    def test_as_of_a_floor_and_told(self):
        log = FloorLog()
        self.assertEqual((log.place("P", HOME), log.lay((0, 0, 2, -2, 1), "LLLLLLL"), log.place("X", (-5, 6, -7, 8, 3))), (0, tuple(range(1, 8)), 8))
        self.assertIsNone(log.remove(4))
        self.assertEqual((log.undo(), log.undo(), log.place("H", (2, 0, 0, 0, 0))), (True, True, 8))
        self.assertEqual(log.layout(), (("P", HOME),) + along((0, 0, 2, -2, 1), "LLLLLLL") + (("H", (2, 0, 0, 0, 0)),))
        self.assertEqual(log.journal(), (
            "place P 0 0 0 0 0\nlay 0 0 2 -2 1 L7\nplace X -5 6 -7 8 3\nremove 4\nundo\nundo\nplace H 2 0 0 0 0\n"
        ))

    def test_rows_in_their_short_text(self):
        for row in ("S", "SS", "SSL", "SLS", "RRLLHHSS", "L" * 8, "S" * 12, "S" * 24, "HRHRH"):
            log = FloorLog()
            log.lay((3, -1, 4, -1, 5), row)
            self.assertEqual(log.journal(), f"lay 3 -1 4 -1 5 {short(row)}\n")
            self.assertEqual(replay_floor(log.journal()).layout(), along((3, -1, 4, -1, 5), row))

    def test_refused_deeds_leave_no_line(self):
        log = FloorLog()
        log.lay(HOME, "LLLL")
        before = log.layout(), log.journal()
        for deed, told, reason in (
            ("place", ("S", HOME), "ends overlap"), ("lay", (HOME, "S"), "ends overlap"), ("lay", ((50, 0, 0, 0, 0), "L" * 9), "ends overlap"),
            ("lay", ((50, 0, 0, 0, 0), "S" * 21), "too many pieces"), ("lay", (HOME, "S" * 40), "too many pieces"), ("remove", (4,), "no such piece"),
            ("remove", (-1,), "no such piece"), ("remove", (24,), "no such piece"),
        ):
            self.assertEqual(led(log, deed, told), reason)
            self.assertEqual((log.layout(), log.journal()), before)
        log.lay((50, 0, 0, 0, 0), "S" * 20)
        self.assertEqual(led(log, "place", ("S", (0, 50, 0, 0, 0))), "too many pieces")
        self.assertEqual(log.journal(), "lay 0 0 0 0 0 L4\nlay 50 0 0 0 0 S20\n")
        self.assertEqual((log.remove(3), led(log, "remove", (3,))), (None, "no such piece"))

    def test_undoing_to_the_end(self):
        log, layouts = FloorLog(), []
        for number in range(24):
            layouts.append(log.layout())
            log.place("S", (4 * number, 0, 0, 0, 0))
        for number in range(24):
            layouts.append(log.layout())
            log.remove(number)
        # All are kept, also more than sixty.
        for _ in range(24):
            log.undo()
        for number in range(23, -1, -1):
            layouts[24 + 23 - number] = log.layout()
            log.remove(number)
        for layout in layouts[::-1]:
            self.assertEqual((log.undo(), log.layout()), (True, layout))
        self.assertEqual((log.undo(), log.layout(), len(log.journal().split("\n"))), (False, (), 24 * 4 + 48 + 1))
        self.assertEqual(replay_floor(log.journal()).journal(), log.journal())

    def test_led_by_many_deeds(self):
        answers = []
        for seed in range(30):
            log, behind, given = led_floor(seed)
            self.assertEqual((log.journal(), log.layout()), list(behind.items())[-1])
            answers.extend(given)
        kinds = {answer if isinstance(answer, str) else type(answer) for answer in answers}
        self.assertEqual(kinds, {"ends overlap", "no such piece", "too many pieces", int, tuple, bool, type(None)})


class Again(Case):
    def test_each_line(self):
        for text, layout in (
            ("", ()), ("place S 0 0 0 0 0\n", (("S", HOME),)), ("place Q -1 2 -3 4 7\n", (("Q", (-1, 2, -3, 4, 7)),)),
            ("lay 0 0 0 0 0 L2S\n", along(HOME, "LLS")), ("lay 0 0 0 0 0 R\nremove 0\n", (None,)), ("place C 0 0 0 0 0\nundo\n", ()),
            ("place X 0 0 0 0 0\nremove 0\nundo\nremove 0\nplace H 0 0 0 0 0\n", (None, ("H", HOME))), ("lay 0 0 0 0 0 S24\n", along(HOME, "S" * 24)),
        ):
            log = replay_floor(text)
            self.assertIsInstance(log, FloorLog)
            self.assertEqual((log.layout(), log.journal()), (layout, text))

    def test_at_the_bounds_of_poses(self):
        for kind in "SHCPQX":
            for pose in ((-999, 999, -999, 999, 0), (999, -999, 999, -999, 7), (999,) * 4 + (3,), (-999,) * 4 + (4,), (0, 0, 0, 0, 7)):
                log = FloorLog()
                log.place(kind, pose)
                self.assertEqual(log.journal(), "place {} {} {} {} {} {}\n".format(kind, *pose))
                self.assertEqual(replay_floor(log.journal()).layout(), ((kind, pose),))
                log = FloorLog()
                log.lay(pose, "SLH")
                self.assertEqual(replay_floor(log.journal()).layout(), log.layout())

    def test_beyond_them(self):
        # A floor takes such poses; in a line they are none.
        for pose in ((1000, 0, 0, 0, 0), (0, -1000, 0, 0, 0), (0, 0, 12345, 0, 0), (0, 0, 0, -99999, 0)):
            log = FloorLog()
            self.assertEqual((log.place("S", pose), log.lay(pose[:4] + (2,), "S")), (0, (1,)))
            self.refuse(1, log.journal())
        for numbers in ("0 0 0 0 8", "0 0 0 0 -1", "0 0 0 0 10", "1000 0 0 0 0", "0 0 0 -1000 0"):
            self.refuse(1, f"place S {numbers}\n")
            self.refuse(2, f"place S 0 0 0 0 0\nlay {numbers} S\n")

    def test_cut_at_any_sign(self):
        for seed in range(12):
            log, behind, _ = led_floor(100 + seed, deeds=20)
            text = log.journal()
            for many in range(len(text) + 1):
                whole = text[:text.rfind("\n", 0, many) + 1]
                again = replay_floor(text[:many])
                self.assertEqual((again.layout(), again.journal()), (behind[whole], whole))

    def test_it_can_be_undone_and_go_on(self):
        for seed in range(12):
            log, _, _ = led_floor(200 + seed)
            again = replay_floor(log.journal())
            while log.undo():
                self.assertEqual((again.undo(), again.layout()), (True, log.layout()))
            self.assertEqual((again.undo(), again.layout(), again.journal()), (False, (), log.journal()))
            self.assertEqual((again.place("S", HOME), log.place("S", HOME), again.journal()), (0, 0, log.journal()))

    def test_what_is_no_whole_line_is_not_looked_at(self):
        for rest in ("place", "place S 0 0 0 0 0", "lay 0 0", "undo", "nonsense", " ", "remove 99", "undo\r", "\t", "0", "lay 0 0 0 0 0 S"):
            for text in ("", "place S 0 0 0 0 0\n", "lay 5 0 0 0 0 L2\nundo\n"):
                self.assertEqual(replay_floor(text + rest).journal(), text)


WRONG = (
    "", " ", "undo ", " undo", "Undo", "UNDO", "undo 1", "undone", "undo\t", "undo\r", "undo undo", "redo", "tick", "toggle 0", "add 0 0 1", "#", "layout",
    "remove", "remove ", "remove 00", "remove +0", "remove -0", "remove -1", "remove 0 ", "remove  0", "remove 0 0", "remove 0.0", "remove zero", "remove 9",
    "remove 24", "remove 99", "remove 1000", "remove " + "9" * 5000, "remove " + "0" * 5000, "remove \u0660", "remove\t0", "Remove 0", "remove 0,", "remove (0)",
    "place", "place ", "place S", "place S 9 0 0 0", "place S 9 0 0 0 ", "place S 9 0 0 0 0 ", "place S 9 0 0 0 0 0", "place  S 9 0 0 0 0", "place S  9 0 0 0 0",
    " place S 9 0 0 0 0", "Place S 9 0 0 0 0", "place s 9 0 0 0 0", "place L 9 0 0 0 0", "place R 9 0 0 0 0", "place Y 9 0 0 0 0", "place SS 9 0 0 0 0",
    "place  9 0 0 0 0", "place 9 0 0 0 0", "place S 09 0 0 0 0", "place S +9 0 0 0 0", "place S 9 -0 0 0 0", "place S 9 0 0 0 00", "place S 9,0,0,0,0",
    "place S 9 0 0 0 8", "place S 9 0 0 0 -1", "place S 1000 0 0 0 0", "place S 9 -1000 0 0 0", "place S 9.0 0 0 0 0", "place S 9 0 0 0 x", "place S9 0 0 0 0",
    "place S 9 \u0660 0 0 0", "place S " + "9" * 5000 + " 0 0 0 0", "place S 9 0 0 0 0;", "place\tS 9 0 0 0 0", "place S 9 0 0 0 0\rundo", "place SHCPQX 9 0 0 0 0",
    "place S (9, 0, 0, 0, 0)", "place SH 9 0 0 0 0", "place \u0405 9 0 0 0 0", "place S 9 0 0 0 0\x0bundo",
    "lay", "lay ", "lay 9 0 0 0 0", "lay 9 0 0 0 0 ", "lay 9 0 0 0 S", "lay S", "lay 9 0 0 0 0  S", "lay 9 0 0 0 0 S ", "lay 9 0 0 0 0 S S", "lay 9 0 0 0 0 s",
    "lay 9 0 0 0 0 SS", "lay 9 0 0 0 0 S1", "lay 9 0 0 0 0 S0", "lay 9 0 0 0 0 S02", "lay 9 0 0 0 0 S2S", "lay 9 0 0 0 0 2", "lay 9 0 0 0 0 C", "lay 9 0 0 0 0 P",
    "lay 9 0 0 0 0 S41", "lay 9 0 0 0 0 S40", "lay 9 0 0 0 0 S24", "lay 9 0 0 0 0 L9", "lay 9 0 0 0 0 S-2", "lay 9 0 0 0 0 S 2", "lay 9 0 0 0 0 S" + "9" * 5000,
    "lay 9 0 0 0 8 S", "lay 9 0 0 0 -1 S", "lay 1000 0 0 0 0 S", "lay 09 0 0 0 0 S", "lay 9 0 0 0 0 0 S", "Lay 9 0 0 0 0 S", "lay 9,0,0,0,0 S", "lay 9 0 0 0 0 S\u0662",
    "lay S 9 0 0 0 0", "lay 9 0 0 0 0\tS", "lay  9 0 0 0 0 S", "lay 9 0 0 0 0 -", "lay 9 0 0 0 0 \"S\"",
)


class WrongLines(Case):
    def test_lines_that_are_none_or_in_another_writing(self):
        ahead = "place H 0 0 0 0 0\n"
        for line in WRONG:
            with self.subTest(line=line[:40]):
                self.refuse(2, ahead + line + "\n")
                self.refuse(2, ahead + line + "\nundo\n")
                self.refuse(4, ahead + "remove 0\nundo\n" + line + "\n" + line + "\n")
                self.refuse(3, ahead + "lay 0 50 0 0 1 S2L\n" + line + "\nund")

    def test_lines_that_are_refused(self):
        for text, place in (
            ("undo\n", 1), ("place S 0 0 0 0 0\nundo\nundo\n", 3), ("place S 0 0 0 0 0\nplace H 0 0 0 0 0\n", 2), ("remove 0\n", 1),
            ("place S 0 0 0 0 0\nremove 0\nremove 0\n", 3), ("lay 0 0 0 0 0 S24\nplace S 0 9 0 0 0\n", 2), ("lay 0 0 0 0 0 S25\n", 1), ("lay 0 0 0 0 0 L9\n", 1),
            ("lay 0 0 0 0 0 S20\nlay 0 9 0 0 0 S5\n", 2), ("lay 0 0 0 0 0 L4\nlay 0 0 0 0 0 R\n", 2), ("lay 0 0 0 0 0 L4\nremove 4\n", 2),
        ):
            self.refuse(place, text)
            self.refuse(place, text + "undo\n")
            self.refuse(place, text + "nonsense\n")
            self.refuse(place, text + "lay 0 0")

    def test_the_first_one_is_told(self):
        self.refuse(1, "\n")
        self.refuse(1, "\n\nundo\n")
        self.refuse(2, "place S 0 0 0 0 0\n\n")
        self.refuse(2, "place S 0 0 0 0 0\nundo \nundo\nundo\nundo\n")
        self.refuse(1001, "place S 0 0 0 0 0\nundo\n" * 500 + "undo\n")

    def test_rows_that_can_be_read_are_laid(self):
        for row, text in TEXTS:
            if row and why_not((), along(HOME, row)) is None:
                self.assertEqual(replay_floor(f"lay 0 0 0 0 0 {text}\n").layout(), along(HOME, row))
            else:
                self.refuse(1, f"lay 0 0 0 0 0 {text}\n")


class Arguments(Case):
    def test_nothing_is_shared_or_changed(self):
        one, other, floor = FloorLog(), FloorLog(), Layout()
        pose, row = (0, 0, 0, 0, 0), "SSL"
        for there in (one, floor):
            there.lay(pose, row)
        self.assertEqual((one.layout(), other.layout(), other.journal(), pose, row), (floor.layout(), (), "", HOME, "SSL"))
