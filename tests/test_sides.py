import itertools
import unittest

from railshut.routes import can_turn_round
from railshut.sides import judge_sides, make_sides
from tests.floors import along, some_layouts
from tests.model import HOME
from tests.tracks import (
    BALLOON, DUMBBELL, EIGHT, FAR_BALLOON, OVAL, RING, ROUND, SIDING, TRACKS, TWO_SIDINGS, WYE, all_trains, faced,
    free, grown_layouts, ladder, ring_of_turnouts, sets_that_hang_together,
)
from tests.variants import variants

SOME = tuple(TRACKS.values()) + tuple(some_layouts(25, seed=41)) + grown_layouts(25, 3) + (ladder(10), ring_of_turnouts(8))

# So small that all choices of a way for each of their trains can be tried.
SMALL = (
    (), (None,), along(HOME, "SLR"), (("P", HOME),), (("X", HOME), None), (("P", HOME), ("Q", (-2, 0, 0, 0, 4))),
    (("P", HOME), ("S", (2, 0, 0, 0, 0)), None, ("S", (-2, 0, 0, 0, 0))), (("X", HOME), ("H", (2, 0, 0, 0, 0)), ("P", (1, 0, 1, 0, 2))),
    RING, along(HOME, "SSSSSSSSS"), (("P", HOME), ("P", (2, 0, 0, 0, 0)), ("P", (-2, 0, 0, 0, 0))),
)


def is_side_paper(layout, trains):
    """As s1 has it in words, for some trains of the layout."""
    for train in all_trains(layout):
        if (train in trains) == (faced(train) in trains):
            return False
    for train in trains:
        if not set(free(layout, train)) <= trains:
            return False
        if not all(other in trains for other in all_trains(layout) if train in free(layout, other)):
            return False
    return True


def all_side_papers(layout):
    pairs = sorted({tuple(sorted((train, faced(train)))) for train in all_trains(layout)})
    papers = [tuple(sorted(choice)) for choice in itertools.product(*pairs)]
    return [paper for paper in papers if is_side_paper(layout, set(paper))]


def made_by_trial(layout):
    """The paper that s2 tells, out of the sets that hang together; None if one of them faces itself round."""
    paper = set()
    for one in sets_that_hang_together(layout):
        other = {faced(train) for train in one}
        if one & other:
            return None
        paper |= one if min(one) < min(other) else other
    return tuple(sorted(paper))


class Made(unittest.TestCase):
    def test_told_ones(self):
        for layout, expected in (
            (RING, tuple((number, 0, 1) for number in range(8))), ((), ()), ((None, None), ()), ((("S", HOME),), ((0, 0, 1),)),
            ((None, ("X", HOME)), ((1, 0, 1), (1, 2, 3))), ((("P", HOME),), ((0, 0, 1), (0, 0, 2))), (BALLOON, None), (DUMBBELL, None), (WYE, None),
            # With a straight behind it the two ways of a turnout hang together.
            ((("S", (-2, 0, 0, 0, 0)), ("P", HOME)), ((0, 0, 1), (1, 0, 1), (1, 0, 2))),
            ((("Q", HOME), ("S", (0, 0, 0, 0, 4))), ((0, 0, 1), (0, 0, 2), (1, 1, 0))),
            (SIDING, ((0, 0, 1), (0, 0, 2), (1, 1, 0), (2, 0, 1), (3, 0, 1), (4, 1, 0), (5, 1, 0), (6, 0, 1), (7, 0, 1), (8, 1, 0), (9, 1, 0), (9, 2, 0))),
            # The straight that was placed the other way round has the less first train, so it tells the side.
            ((("S", (2, 0, 0, 0, 4)), ("S", (2, 0, 0, 0, 0))), ((0, 0, 1), (1, 1, 0))),
        ):
            self.assertEqual(make_sides(layout), expected, layout)

    def test_beside_the_sets_that_hang_together(self):
        for layout in SOME:
            self.assertEqual(make_sides(layout), made_by_trial(layout), layout)

    def test_made_ones_are_taken(self):
        some, none = 0, 0
        for layout in SOME + SMALL:
            paper = make_sides(layout)
            if paper is None:
                none += 1
            else:
                some += 1
                self.assertIs(type(paper), tuple)
                self.assertIs(judge_sides(layout, paper), True, layout)
                for train in all_trains(layout):
                    self.assertIs(can_turn_round(layout, train), False)
        self.assertGreater(some, 20)
        self.assertGreaterEqual(none, 3)

    def test_none_though_no_train_can_turn_round(self):
        self.assertFalse(any(can_turn_round(WYE, train) for train in all_trains(WYE)))
        # By free steps and free steps the other way each train hangs together with itself facing round.
        self.assertEqual(sets_that_hang_together(WYE), [set(all_trains(WYE))])
        self.assertIsNone(make_sides(WYE))
        self.assertEqual(all_side_papers(WYE), [])
        # Each straight binds two trains that step to it; without one of them there are sides.
        for number in (7, 8, 9):
            layout = WYE[:number] + (None,) + WYE[number + 1:]
            self.assertEqual(make_sides(layout), made_by_trial(layout))
            self.assertIs(judge_sides(layout, make_sides(layout)), True)

    def test_there_is_one_exactly_if_all_choices_have_one(self):
        for layout in SMALL:
            papers = all_side_papers(layout)
            made = make_sides(layout)
            self.assertEqual(made is None, not papers, layout)
            if papers:
                self.assertIn(made, papers)


class Judged(unittest.TestCase):
    def refuse(self, layout, *papers):
        for paper in papers:
            self.assertIs(judge_sides(layout, paper), False, paper)

    def test_all_choices_of_small_layouts(self):
        for layout in SMALL:
            papers = all_side_papers(layout)
            pairs = sorted({tuple(sorted((train, faced(train)))) for train in all_trains(layout)})
            for choice in itertools.product(*pairs):
                paper = tuple(sorted(choice))
                self.assertIs(judge_sides(layout, paper), paper in papers, (layout, paper))

    def test_both_sides_are_taken(self):
        for layout in (RING, SIDING, EIGHT, ROUND, FAR_BALLOON, TWO_SIDINGS, OVAL, ladder(10), ring_of_turnouts(8)):
            paper = make_sides(layout)
            self.assertIs(judge_sides(layout, paper), True)
            self.assertIs(judge_sides(layout, tuple(sorted(faced(train) for train in paper))), True)
            self.refuse(layout, tuple(sorted(paper, reverse=True)), paper[1:] + paper[:1])

    def test_one_train_that_is_wrong(self):
        for layout in (RING, SIDING, EIGHT, ROUND, ladder(3)):
            paper = make_sides(layout)
            for at, train in enumerate(paper):
                ahead, behind = paper[:at], paper[at + 1:]
                # Left out, facing round, both, twice, in another place.
                self.refuse(
                    layout, ahead + behind, tuple(sorted(ahead + (faced(train),) + behind)), tuple(sorted(paper + (faced(train),))),
                    ahead + (train, train) + behind, behind + ahead + (train,) if at < len(paper) - 1 else behind + (train,) + ahead,
                )
            for wrong in ((99, 0, 1), (-1, 0, 1), (0, 0, 0), (0, 0, 7), (0, 1, 2)):
                self.refuse(layout, tuple(sorted(paper + (wrong,))), tuple(sorted(paper[1:] + (wrong,))))
            self.refuse(layout, (), all_trains(layout), paper * 2, paper[:1])

    def test_of_two_islands_each_may_have_either_side(self):
        layout = RING + tuple((kind, (50,) + pose[1:]) for kind, pose in (("S", HOME), ("S", HOME)))[:1]
        ring, straight = make_sides(layout)[:8], ((8, 0, 1),)
        for one, other in itertools.product((ring, tuple(map(faced, ring))), (straight, tuple(map(faced, straight)))):
            self.assertIs(judge_sides(layout, one + other), True)
        self.refuse(layout, ring, straight, ring[:7] + ((7, 1, 0),) + straight)

    def test_layouts_without_a_paper(self):
        for layout in (BALLOON, DUMBBELL, WYE):
            trains = all_trains(layout)
            self.refuse(layout, (), trains, tuple(sorted(min(train, faced(train)) for train in trains))[::2], trains[::2])

    def test_nothing_is_the_paper_of_nothing(self):
        for layout in ((), (None, None)):
            self.assertIs(judge_sides(layout, ()), True)
            self.refuse(layout, [], ((0, 0, 1),), None, set(), ((),), "")

    def test_other_shapes(self):
        paper = make_sides(ROUND)
        self.refuse(
            ROUND, list(paper), set(paper), dict.fromkeys(paper), iter(paper), tuple(list(train) for train in paper), (paper,), paper[0],
            tuple(train + (1,) for train in paper), tuple(train[:2] for train in paper), ("sides", paper), ("sides",) + paper,
            tuple((float(piece), entry, leaving) for piece, entry, leaving in paper), tuple(tuple(map(bool, train)) for train in paper),
            tuple((piece, bool(entry), leaving) if entry < 2 else (piece, entry, leaving) for piece, entry, leaving in paper),
            tuple(tuple(map(str, train)) for train in paper), repr(paper),
        )

    def test_whatever_it_is(self):
        class NotToBeCompared:
            def __eq__(self, other):
                raise RuntimeError

        odd, deep = NotToBeCompared(), ()
        for _ in range(5000):
            deep = (deep,)
        paper = make_sides(SIDING)
        for worth in (
            None, 0, 1, -1, True, False, 1.5, float("nan"), "", "sides", b"", (), [], {}, set(), object(), odd, deep, len, range(3), (None,), ((),),
            (odd,), [[[]]], {"a": 1}, 10 ** 500, frozenset(), ...,
        ):
            self.refuse(SIDING, worth, (worth,), (worth, worth), paper + (worth,), (worth,) + paper[1:], paper[:3] + (worth,) + paper[4:])
            self.refuse(SIDING, ((worth, 0, 1),), (worth, 0, 1), paper[:-1] + ((9, worth, worth),))


class ToldElsewhere(unittest.TestCase):
    def test_sides_are_the_same(self):
        for layout in TRACKS.values():
            made = make_sides(layout)
            for variant in variants(layout):
                other = make_sides(variant.layout)
                self.assertEqual(other, made_by_trial(variant.layout), variant.name)
                self.assertEqual(other is None, made is None, variant.name)
                if made is not None:
                    self.assertIs(judge_sides(variant.layout, tuple(sorted(map(variant.train, made)))), True, variant.name)
                if variant.name.startswith("at"):
                    self.assertEqual(other, made)


class Arguments(unittest.TestCase):
    def test_no_function_changes_them(self):
        paper = make_sides(FAR_BALLOON)
        before, as_list = tuple(list(paper)), [list(train) for train in paper]
        self.assertIs(judge_sides(FAR_BALLOON, paper), True)
        self.assertIs(judge_sides(FAR_BALLOON, as_list), False)
        self.assertEqual((FAR_BALLOON, paper, as_list), (TRACKS["with gaps"], before, [list(train) for train in before]))
