import copy
import itertools
import unittest

from railshut.poses import back, laid, moved, seen, step, turned
from tests.model import POSES, POSITIONS, STEPS, plane

GREAT = 10 ** 40 + 1


class Steps(unittest.TestCase):
    def test_each_direction(self):
        for direction in range(8):
            for many in (0, 1, 2, 3, 17, 999, GREAT, -1, -5, -GREAT):
                with self.subTest(direction=direction, many=many):
                    self.assertEqual(step(direction, many), tuple(many * one for one in STEPS[direction]))

    def test_directions_4_to_7_are_one_less_in_the_direction_4_less(self):
        self.assertEqual(
            [step(direction, 3) for direction in range(4, 8)],
            [(-3, 0, 0, 0), (0, -3, 0, 0), (0, 0, -3, 0), (0, 0, 0, -3)],
        )

    def test_directions_are_counted_modulo_8(self):
        for direction in range(8):
            self.assertEqual(step(direction + 8, 5), step(direction, 5))

    def test_the_steps_point_where_they_should(self):
        for direction in range(8):
            point = plane(step(direction, 2))
            self.assertAlmostEqual(abs(point), 2)
            self.assertAlmostEqual(abs(point - 2 * plane(STEPS[1]) ** direction), 0)


class Moved(unittest.TestCase):
    def test_sums(self):
        self.assertEqual(moved((1, 2, 3, 4), (10, 20, 30, 40)), (11, 22, 33, 44))
        self.assertEqual(moved((1, -2, 3, -4), (-1, 2, -3, 4)), (0, 0, 0, 0))
        self.assertEqual(moved((GREAT, 0, -GREAT, 1), (1, GREAT, -1, -GREAT)), (GREAT + 1, GREAT, -GREAT - 1, 1 - GREAT))

    def test_either_way_round_and_by_nought(self):
        for one, other in itertools.product(POSITIONS, repeat=2):
            self.assertEqual(moved(one, other), moved(other, one))
            self.assertEqual(moved(one, other), tuple(a + b for a, b in zip(one, other)))
        for one in POSITIONS:
            self.assertEqual(moved(one, (0, 0, 0, 0)), one)


class Turned(unittest.TestCase):
    def test_each_number_of_eighths(self):
        told = (
            (1, 2, 3, 4), (-4, 1, 2, 3), (-3, -4, 1, 2), (-2, -3, -4, 1),
            (-1, -2, -3, -4), (4, -1, -2, -3), (3, 4, -1, -2), (2, 3, 4, -1),
        )
        for eighths, expected in enumerate(told):
            with self.subTest(eighths=eighths):
                self.assertEqual(turned((1, 2, 3, 4), eighths), expected)
                self.assertEqual(turned((1, 2, 3, 4), eighths + 8), expected)
                self.assertEqual(turned((1, 2, 3, 4), eighths + 80), expected)

    def test_by_eight_changes_nothing(self):
        for position in POSITIONS:
            for eighths in (0, 8, 16, 800):
                self.assertEqual(turned(position, eighths), position)

    def test_each_step_turns_its_direction(self):
        for direction, eighths in itertools.product(range(8), range(20)):
            self.assertEqual(turned(step(direction, 3), eighths), step((direction + eighths) % 8, 3))

    def test_one_by_one_is_as_many_at_once(self):
        for position in POSITIONS:
            here = position
            for eighths in range(25):
                self.assertEqual(turned(position, eighths), here)
                here = turned(here, 1)

    def test_to_the_left(self):
        self.assertAlmostEqual(abs(plane(turned((3, 1, 4, 1), 3)) - plane((3, 1, 4, 1)) * plane((0, 0, 0, 1))), 0)


class Frames(unittest.TestCase):
    def test_seen(self):
        self.assertEqual(seen((0, 0, 0, 0, 0), (1, 2, 3, 4, 5)), (1, 2, 3, 4, 5))
        self.assertEqual(seen((1, 0, 0, 0, 2), (3, 0, 0, 0, 0)), (0, 0, -2, 0, 6))
        self.assertEqual(seen((1, 2, 3, 4, 1), (2, 4, 6, 8, 1)), (2, 3, 4, -1, 0))
        self.assertEqual(seen((0, 0, 0, 0, 7), (1, 0, 0, 0, 6)), (0, 1, 0, 0, 7))

    def test_laid(self):
        self.assertEqual(laid((0, 0, 0, 0, 0), (1, 2, 3, 4, 5)), (1, 2, 3, 4, 5))
        self.assertEqual(laid((1, 2, 3, 4, 5), (0, 0, 0, 0, 0)), (1, 2, 3, 4, 5))
        self.assertEqual(laid((1, 0, 0, 0, 2), (0, 0, -2, 0, 6)), (3, 0, 0, 0, 0))
        self.assertEqual(laid((0, 0, 0, 0, 7), (1, 0, 0, 0, 7)), (0, 0, 0, -1, 6))

    def test_seen_by_its_words(self):
        for frame, pose in itertools.product(POSES, POSES):
            away = tuple(there - here for here, there in zip(frame[:4], pose[:4]))
            expected = [0, 0, 0, 0]
            for direction, many in enumerate(away):
                for at, one in enumerate(STEPS[(direction - frame[4]) % 8]):
                    expected[at] += many * one
            self.assertEqual(seen(frame, pose), tuple(expected) + ((pose[4] - frame[4]) % 8,))

    def test_what_is_seen_and_laid_there_again_is_the_pose_itself(self):
        for frame, pose in itertools.product(POSES, POSES):
            self.assertEqual(laid(frame, seen(frame, pose)), pose)
            self.assertEqual(seen(frame, laid(frame, pose)), pose)

    def test_a_pose_seen_from_itself_is_home(self):
        for pose in POSES:
            self.assertEqual(seen(pose, pose), (0, 0, 0, 0, 0))
            self.assertEqual(seen((0, 0, 0, 0, 0), pose), pose)
            self.assertEqual(laid(pose, (0, 0, 0, 0, 0)), pose)


class Back(unittest.TestCase):
    def test_the_opposite_heading(self):
        told = (4, 5, 6, 7, 0, 1, 2, 3)
        for position in POSITIONS:
            for heading, opposite in enumerate(told):
                self.assertEqual(back(position + (heading,)), position + (opposite,))

    def test_twice_is_the_pose_itself(self):
        for pose in POSES:
            self.assertEqual(back(back(pose)), pose)


class Arguments(unittest.TestCase):
    def test_no_function_changes_them_and_all_give_tuples(self):
        position, pose, other = (1, -2, 3, -4), (1, 2, 3, 4, 5), (-6, 7, 8, 9, 3)
        calls = (
            (step, (3, 4)), (moved, (position, position)), (turned, (position, 3)),
            (seen, (pose, other)), (laid, (pose, other)), (back, (pose,)),
        )
        for function, told in calls:
            before = copy.deepcopy(told)
            answer = function(*told)
            self.assertEqual(told, before)
            self.assertIs(type(answer), tuple)
            self.assertEqual({type(number) for number in answer}, {int})
            self.assertEqual(function(*told), answer)
