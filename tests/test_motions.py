import itertools
import unittest

from railshut.motions import alike, motions
from tests.floors import (
    ELSEWHERE, all_ends, along, from_other_ends, piece_words, put_elsewhere, some_layouts,
)
from tests.model import HOME, laid_by_steps

TWO_STRAIGHTS = (("S", HOME), ("S", (0, 0, 6, 0, 0)))
SQUARE = (("S", HOME), ("S", (5, 0, 3, 0, 2)), ("S", (2, 0, 8, 0, 4)), ("S", (-3, 0, 5, 0, 6)))

# A layout, how many motions it has, and which pieces are alike.
TOLD = (
    ((("S", HOME),), 2, ((0,),)), ((("H", HOME),), 2, ((0,),)), ((("C", HOME),), 1, ((0,),)), ((("P", HOME),), 1, ((0,),)),
    ((("Q", HOME),), 1, ((0,),)), ((("X", HOME),), 4, ((0,),)),
    (along(HOME, "LLLLLLLL"), 8, ((0, 1, 2, 3, 4, 5, 6, 7),)),
    (along(HOME, "LLLLSLLLLS"), 2, ((0, 5), (1, 6), (2, 7), (3, 8), (4, 9))),
    (along(HOME, "SLLSLLSLLSLL"), 4, ((0, 3, 6, 9), (1, 4, 7, 10), (2, 5, 8, 11))),
    (along(HOME, "SLSLSLSLSLSLSLSL"), 8, (tuple(range(0, 16, 2)), tuple(range(1, 16, 2)))),
    (along(HOME, "LLLLSSLLLLHHS"), 1, tuple((number,) for number in range(13))),
    (along(HOME, "LLS"), 1, ((0,), (1,), (2,))), (along(HOME, "SHL"), 1, ((0,), (1,), (2,))),
    # Rows that are not rings: a straight line, and one like the letter S.
    (along(HOME, "SHHS"), 2, ((0, 3), (1, 2))), (along(HOME, "LSR"), 2, ((0, 2), (1,))), (along(HOME, "LR"), 2, ((0, 1),)),
    (along(HOME, "LL"), 1, ((0,), (1,))),
    # Islands.
    (TWO_STRAIGHTS, 2, ((0, 1),)), ((("S", HOME), ("H", (0, 0, 6, 0, 0))), 1, ((0,), (1,))), (SQUARE, 4, ((0, 1, 2, 3),)),
    (along(HOME, "LLLLLLLL") + along((40, 0, 0, 0, 0), "LLLLLLLL"), 2,
     ((0, 12), (1, 13), (2, 14), (3, 15), (4, 8), (5, 9), (6, 10), (7, 11))),
    # A piece that lies in the middle of a ring leaves only its own turns.
    (along(HOME, "LLLLLLLL") + (("X", (-1, 0, 2, 0, 0)),), 4, ((0, 2, 4, 6), (1, 3, 5, 7), (8,))),
    (along(HOME, "LLLLLLLL") + (("S", (-1, 0, 2, 0, 0)),), 2, ((0, 4), (1, 5), (2, 6), (3, 7), (8,))),
    # Without pieces.
    ((), 0, ()), ((None,), 0, ()), ((None, None, None), 0, ()),
    # With gaps.
    ((None, ("S", HOME), None, None, ("S", (0, 0, 6, 0, 0)), None), 2, ((1, 4),)),
    ((None,) + along(HOME, "LLLLLLLL")[:4] + (None,) + along(HOME, "LLLLLLLL")[4:], 8, ((1, 2, 3, 4, 6, 7, 8, 9),)),
)

SOME = tuple(layout for layout, _, _ in TOLD) + tuple(some_layouts(20, seed=9, deeds=4))


def motions_by_trial(layout):
    """Every turn, with every move that takes some position of an end to some other one."""
    there = piece_words(layout)
    positions = {pose[:4] for _, _, pose in all_ends(layout)}
    found = set()
    for heading in range(8):
        first = laid_by_steps((0, 0, 0, 0, heading), min(positions) + (0,))
        for position in positions:
            motion = tuple(to - at for at, to in zip(first[:4], position)) + (heading,)
            if piece_words(put_elsewhere(layout, motion)) == there:
                found.add(motion)
    return tuple(sorted(found, key=lambda motion: (motion[4],) + motion))


class Motions(unittest.TestCase):
    def test_how_many(self):
        for layout, many, _ in TOLD:
            self.assertEqual(len(motions(layout)), many, layout)

    def test_told_ones(self):
        for layout, expected in (
            ((("S", HOME),), (HOME, (2, 0, 0, 0, 4))),
            ((("C", HOME),), (HOME,)),
            ((("X", HOME),), (HOME, (1, 0, -1, 0, 2), (2, 0, 0, 0, 4), (1, 0, 1, 0, 6))),
            (TWO_STRAIGHTS, (HOME, (2, 0, 6, 0, 4))),
            (SQUARE, (HOME, (5, 0, 3, 0, 2), (2, 0, 8, 0, 4), (-3, 0, 5, 0, 6))),
        ):
            self.assertEqual(motions(layout), expected)

    def test_those_of_a_ring_lead_to_its_poses(self):
        ring = along(HOME, "LLLLLLLL")
        self.assertEqual(motions(ring), tuple(pose for _, pose in ring))

    def test_beside_a_trial(self):
        for layout in SOME:
            if piece_words(layout):
                self.assertEqual(motions(layout), motions_by_trial(layout), layout)
            else:
                self.assertEqual(motions(layout), ())

    def test_home_is_among_them_and_they_are_a_group(self):
        for layout in SOME:
            told = motions(layout)
            if piece_words(layout):
                self.assertEqual(told[0], HOME)
            for one, other in itertools.product(told, repeat=2):
                self.assertIn(laid_by_steps(one, other), told)
            for one in told:
                self.assertEqual([laid_by_steps(one, other) for other in told].count(HOME), 1)

    def test_they_are_ordered(self):
        for layout in SOME:
            told = motions(layout)
            self.assertEqual(sorted(told, key=lambda motion: (motion[4], motion)), list(told))
            self.assertEqual(len(set(told)), len(told))

    def test_they_take_a_layout_to_itself(self):
        for layout in SOME:
            for motion in motions(layout):
                self.assertEqual(piece_words(put_elsewhere(layout, motion)), piece_words(layout))

    def test_elsewhere_and_from_other_ends(self):
        for layout, many, sets in TOLD:
            for by, pose in enumerate(ELSEWHERE):
                other = put_elsewhere(from_other_ends(layout, by), pose)
                self.assertEqual((len(motions(other)), alike(other)), (many, sets), layout)

    def test_great_positions(self):
        far = (10 ** 30, -(10 ** 25), 7, 10 ** 20)
        told = motions((("X", far + (3,)), None))
        self.assertEqual([motion[4] for motion in told], [0, 2, 4, 6])
        self.assertEqual(told, motions_by_trial((("X", far + (3,)), None)))


class Alike(unittest.TestCase):
    def test_told_ones(self):
        for layout, _, sets in TOLD:
            self.assertEqual(alike(layout), sets, layout)

    def test_beside_a_trial(self):
        for layout in SOME:
            numbers = [number for number, piece in enumerate(layout) if piece]
            sets = set()
            for number in numbers:
                images = [piece_words(put_elsewhere(layout[number:number + 1], motion)) for motion in motions(layout)]
                sets.add(tuple(other for other in numbers if piece_words(layout[other:other + 1]) in images))
            self.assertEqual(alike(layout), tuple(sorted(sets)), layout)

    def test_each_piece_is_in_one_set(self):
        for layout in SOME:
            told = alike(layout)
            self.assertEqual(sorted(sum(told, ())), [number for number, piece in enumerate(layout) if piece])
            self.assertEqual(sorted(told), list(told))
            for same in told:
                self.assertEqual(sorted(same), list(same))
                self.assertEqual(len({layout[number][0] for number in same}), 1)


class Arguments(unittest.TestCase):
    def test_no_function_changes_them(self):
        layout = (None, ("S", HOME), ("X", (7, 0, 0, 0, 3)))
        for _ in range(2):
            self.assertEqual((motions(layout), alike(layout)), ((HOME,), ((1,), (2,))))
        self.assertEqual(layout, (None, ("S", HOME), ("X", (7, 0, 0, 0, 3))))
