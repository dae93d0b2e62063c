import itertools
import unittest

from railshut.inventories import fullest_packing, left_of, pieces_of_layout, pieces_of_row
from tests.floors import along, some_layouts
from tests.model import HOME, all_rows, forms, is_in_box, shut_rows_by_trial
from tests.tracks import TRACKS

PLAIN, HALVES, STRAIGHTS = "LLLLLLLL", "HLLLLHLLLL", "LLLLSLLLLS"


def packings_by_trial(box):
    """All packings of a box: all loops of at most 10 pieces, taken as often as their pieces last."""
    loops = {min(forms(row)) for row in shut_rows_by_trial() if row}
    words = sorted(loops, key=lambda word: (len(word), word))
    for many in range(1, sum(box) + 1):
        found = [
            packing for packing in itertools.combinations_with_replacement(words, many) if is_in_box("".join(packing), box)
        ]
        if not found:
            return
        yield from found


def fullest_by_trial(box):
    """Of all packings the ones with the most pieces, of these those with the fewest loops, of these the first one."""
    packings = list(packings_by_trial(box))
    if not packings:
        return ()
    most = max(sum(map(len, packing)) for packing in packings)
    packings = [packing for packing in packings if sum(map(len, packing)) == most]
    fewest = min(map(len, packings))
    return min(packing for packing in packings if len(packing) == fewest)


class PiecesOfLayout(unittest.TestCase):
    def test_told_ones(self):
        for layout, expected in (
            ((), (0, 0, 0, 0, 0, 0)), ((None, None), (0, 0, 0, 0, 0, 0)), (TRACKS["ring"], (0, 0, 8, 0, 0, 0)),
            (TRACKS["siding"], (2, 0, 6, 1, 1, 0)), (TRACKS["eight"], (0, 4, 12, 0, 0, 1)),
            (TRACKS["with gaps"], (2, 0, 6, 1, 1, 1)), (TRACKS["a row"], (1, 1, 2, 0, 0, 0)),
        ):
            self.assertEqual(pieces_of_layout(layout), expected, layout)

    def test_each_kind(self):
        for at, kind in enumerate("SHCPQX"):
            for many in range(4):
                layout = (None,) + tuple((kind, (10 * place, 0, 0, 0, 0)) for place in range(many)) + (None,)
                self.assertEqual(pieces_of_layout(layout), (0,) * at + (many,) + (0,) * (5 - at))

    def test_some_layouts(self):
        for layout in some_layouts(40):
            told = pieces_of_layout(layout)
            self.assertEqual(sum(told), len([piece for piece in layout if piece]))
            for kind, many in zip("SHCPQX", told):
                self.assertEqual(many, len([piece for piece in layout if piece and piece[0] == kind]))


class PiecesOfRow(unittest.TestCase):
    def test_told_ones(self):
        for row, expected in (
            ("", (0, 0, 0, 0, 0, 0)), ("S", (1, 0, 0, 0, 0, 0)), ("H", (0, 1, 0, 0, 0, 0)), ("L", (0, 0, 1, 0, 0, 0)),
            ("R", (0, 0, 1, 0, 0, 0)), ("LLSR", (1, 0, 3, 0, 0, 0)), ("SHLR" * 10, (10, 10, 20, 0, 0, 0)), ("H" * 40, (0, 40, 0, 0, 0, 0)),
        ):
            self.assertEqual(pieces_of_row(row), expected)

    def test_those_of_a_row_that_is_laid(self):
        for row in all_rows(5):
            self.assertEqual(pieces_of_row(row), pieces_of_layout(along(HOME, row)))


class LeftOf(unittest.TestCase):
    def test_enough(self):
        for box, row, expected in (
            ((1, 2, 8), "LLS", (0, 2, 6)), ((0, 0, 0), "", (0, 0, 0)), ((3, 4, 5), "", (3, 4, 5)), ((1, 0, 0), "S", (0, 0, 0)),
            ((0, 1, 0), "H", (0, 0, 0)), ((0, 0, 1), "L", (0, 0, 0)), ((0, 0, 1), "R", (0, 0, 0)),
            ((20, 20, 20), "SHLR" * 10, (10, 10, 0)), ((2, 2, 2), "LR", (2, 2, 0)),
        ):
            self.assertEqual(left_of(box, row), expected, (box, row))

    def test_one_too_few_of_each_kind(self):
        for box, row in (
            ((0, 9, 9), "S"), ((9, 0, 9), "H"), ((9, 9, 0), "L"), ((9, 9, 0), "R"), ((1, 2, 4), "SSHHLLRR"), ((2, 1, 4), "SSHHLLRR"),
            ((2, 2, 3), "SSHHLLRR"), ((0, 0, 0), "H"), ((20, 20, 20), "S" * 21), ((20, 20, 20), "L" * 11 + "R" * 10),
        ):
            self.assertIsNone(left_of(box, row), (box, row))

    def test_beside_the_pieces_one_by_one(self):
        for box in itertools.product(range(3), repeat=3):
            for row in all_rows(4):
                left = dict(zip("SHC", box))
                for letter in row:
                    left["C" if letter in "LR" else letter] -= 1
                expected = tuple(left.values()) if min(left.values()) >= 0 else None
                self.assertEqual(left_of(box, row), expected, (box, row))


class FullestPacking(unittest.TestCase):
    def test_told_ones(self):
        for box, expected in (
            ((0, 0, 0), ()), ((20, 20, 7), ()), ((0, 0, 8), (PLAIN,)), ((1, 1, 15), (PLAIN,)), ((2, 0, 8), (STRAIGHTS,)),
            # The first one of two with equal pieces: H stands ahead of L.
            ((0, 2, 8), (HALVES,)), ((2, 2, 8), (HALVES,)), ((2, 1, 8), (STRAIGHTS,)), ((1, 2, 8), (HALVES,)),
            ((0, 0, 16), (PLAIN, PLAIN)), ((1, 1, 16), (PLAIN, PLAIN)), ((2, 0, 16), (PLAIN, STRAIGHTS)),
            ((0, 3, 16), (PLAIN, HALVES)), ((3, 2, 17), (HALVES, STRAIGHTS)), ((4, 0, 16), (STRAIGHTS, STRAIGHTS)),
            ((4, 4, 16), (HALVES, HALVES)), ((4, 2, 16), (HALVES, STRAIGHTS)), ((2, 4, 16), (HALVES, HALVES)),
            ((20, 20, 20), (HALVES, HALVES)), ((20, 0, 20), (STRAIGHTS, STRAIGHTS)), ((0, 20, 20), (HALVES, HALVES)),
            ((0, 0, 20), (PLAIN, PLAIN)), ((20, 20, 0), ()), ((20, 20, 15), (HALVES,)),
        ):
            self.assertEqual(fullest_packing(box), expected, box)

    def test_beside_a_trial_of_all_packings(self):
        for box in itertools.product((0, 1, 2, 3, 4), (0, 1, 2, 4), (0, 8, 9, 15, 16, 20)):
            self.assertEqual(fullest_packing(box), fullest_by_trial(box), box)

    def test_boxes_that_go_beyond(self):
        for box in ((2, 2, 24), (6, 0, 25), (4, 4, 40), (0, 3, 32)):
            self.assertEqual(fullest_packing(box), fullest_by_trial(box), box)

    def test_the_pieces_last(self):
        for box in itertools.product((0, 2, 3, 20), (0, 1, 4, 20), (8, 16, 19, 20)):
            self.assertIsNotNone(left_of(box, "".join(fullest_packing(box))))


class Arguments(unittest.TestCase):
    def test_no_function_changes_them(self):
        layout, row, box = TRACKS["with gaps"], "LLSR", (3, 2, 17)
        for _ in range(2):
            self.assertEqual((pieces_of_layout(layout), pieces_of_row(row)), ((2, 0, 6, 1, 1, 1), (1, 0, 3, 0, 0, 0)))
            self.assertEqual((left_of(box, row), fullest_packing(box)), ((2, 2, 14), (HALVES, STRAIGHTS)))
        self.assertEqual((layout, row, box), (TRACKS["with gaps"], "LLSR", (3, 2, 17)))
