import copy
import itertools
import math
import unittest

from railshut.surds import east, north, surd_added, surd_compared, surd_less
from tests.model import POSITIONS, STEPS, plane

GREAT = 10 ** 60


def near_pairs(many):
    """Pairs (p, q), q times the root of 2 ever nearer to p: p * p - 2 * q * q is -1 and 1 by turns."""
    p, q = 1, 1
    for _ in range(many):
        yield p, q
        p, q = p + 2 * q, p + q


def worth(surd):
    """About what a small surd stands for."""
    return (surd[0] + surd[1] * math.sqrt(2)) / 2


class Coordinates(unittest.TestCase):
    def test_each_direction(self):
        self.assertEqual(
            [(east(step), north(step)) for step in STEPS],
            [((2, 0), (0, 0)), ((0, 1), (0, 1)), ((0, 0), (2, 0)), ((0, -1), (0, 1)),
             ((-2, 0), (0, 0)), ((0, -1), (0, -1)), ((0, 0), (-2, 0)), ((0, 1), (0, -1))],
        )

    def test_mixed_positions(self):
        self.assertEqual((east((3, 5, 7, 11)), north((3, 5, 7, 11))), ((6, -6), (14, 16)))
        self.assertEqual((east((0, 0, 0, 0)), north((0, 0, 0, 0))), ((0, 0), (0, 0)))
        self.assertEqual((east((-1, -2, -3, -5)), north((-1, -2, -3, -5))), ((-2, 3), (-6, -7)))

    def test_great_numbers_are_not_rounded(self):
        position = (GREAT + 1, GREAT + 2, -GREAT - 3, 1 - GREAT)
        self.assertEqual(east(position), (2 * GREAT + 2, 2 * GREAT + 1))
        self.assertEqual(north(position), (-2 * GREAT - 6, 3))

    def test_they_stand_for_the_points_of_the_plane(self):
        for position in POSITIONS[:-1]:
            point = plane(position)
            self.assertAlmostEqual(worth(east(position)), point.real)
            self.assertAlmostEqual(worth(north(position)), point.imag)


class Sums(unittest.TestCase):
    def test_part_by_part(self):
        self.assertEqual(surd_added((1, 2), (30, 40)), (31, 42))
        self.assertEqual(surd_added((1, -2), (-1, 2)), (0, 0))
        self.assertEqual(surd_added((GREAT, 1), (1, -GREAT)), (GREAT + 1, 1 - GREAT))

    def test_one_minus_the_other(self):
        self.assertEqual(surd_less((1, 2), (30, 40)), (-29, -38))
        self.assertEqual(surd_less((30, 40), (1, 2)), (29, 38))
        self.assertEqual(surd_less((5, -7), (5, -7)), (0, 0))
        self.assertEqual(surd_less((GREAT, 1), (1, -GREAT)), (GREAT - 1, GREAT + 1))

    def test_less_takes_back_what_is_added(self):
        surds = list(itertools.product((-3, 0, 1, GREAT), repeat=2))
        for one, other in itertools.product(surds, repeat=2):
            self.assertEqual(surd_less(surd_added(one, other), other), one)
            self.assertEqual(surd_added(one, other), surd_added(other, one))


class Compared(unittest.TestCase):
    def compare_with_nought(self, surd, expected):
        """The surd beside nought, and shifted by others, from both sides."""
        p, q = surd
        for more, roots in ((0, 0), (1, 0), (0, 1), (-7, 5), (GREAT, -GREAT)):
            one, other = (p + more, q + roots), (more, roots)
            self.assertEqual(surd_compared(one, other), expected, (one, other))
            self.assertEqual(surd_compared(other, one), -expected, (other, one))

    def test_nought(self):
        self.compare_with_nought((0, 0), 0)
        for surd in ((1, 0), (0, 1), (-7, 5), (GREAT, -GREAT)):
            self.assertEqual(surd_compared(surd, surd), 0)

    def test_both_not_below_nought(self):
        for surd in ((1, 0), (0, 1), (1, 1), (GREAT, 0), (0, GREAT), (1, GREAT)):
            self.compare_with_nought(surd, 1)

    def test_both_not_above_nought(self):
        for surd in ((-1, 0), (0, -1), (-1, -1), (-GREAT, 0), (0, -GREAT), (-1, -GREAT)):
            self.compare_with_nought(surd, -1)

    def test_p_above_and_q_below(self):
        for surd in ((3, -2), (2, -1), (17, -12), (10, -7), (GREAT, -1)):
            self.compare_with_nought(surd, 1)
        for surd in ((1, -1), (7, -5), (2, -2), (4, -3), (1, -GREAT)):
            self.compare_with_nought(surd, -1)

    def test_p_below_and_q_above(self):
        for surd in ((-1, 1), (-7, 5), (-2, 2), (-4, 3), (-1, GREAT)):
            self.compare_with_nought(surd, 1)
        for surd in ((-3, 2), (-2, 1), (-17, 12), (-10, 7), (-GREAT, 1)):
            self.compare_with_nought(surd, -1)

    def test_all_small_ones(self):
        for p, q in itertools.product(range(-30, 31), repeat=2):
            about = worth((p, q))
            self.assertEqual(surd_compared((p, q), (0, 0)), (about > 1e-9) - (about < -1e-9), (p, q))

    def test_surds_that_are_very_near_one_another(self):
        for at, (p, q) in enumerate(near_pairs(400)):
            # The first pair is (1, 1), and 1 is less than the root of 2; then by turns.
            expected = 1 if at & 1 else -1
            self.compare_with_nought((p, -q), expected)
            self.compare_with_nought((-p, q), -expected)
            self.assertEqual(surd_compared((p, 0), (0, q)), expected)

    def test_the_nearest_integers_of_great_roots(self):
        for q in (1, 5, GREAT, 10 ** 200 + 7):
            floor = math.isqrt(2 * q * q)
            self.compare_with_nought((floor, -q), -1)
            self.compare_with_nought((floor + 1, -q), 1)
            self.compare_with_nought((-floor, q), 1)
            self.compare_with_nought((-floor - 1, q), -1)


class Arguments(unittest.TestCase):
    def test_no_function_changes_them(self):
        calls = (
            (east, ((1, 2, 3, 4),)), (north, ((1, 2, 3, 4),)), (surd_added, ((1, 2), (3, 4))),
            (surd_less, ((1, 2), (3, 4))), (surd_compared, ((1, 2), (3, 4))),
        )
        for function, told in calls:
            before = copy.deepcopy(told)
            answer = function(*told)
            self.assertEqual(told, before)
            self.assertIs(type(answer), int if function is surd_compared else tuple)
            self.assertEqual(function(*told), answer)
