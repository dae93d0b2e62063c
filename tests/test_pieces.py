import unittest

from railshut.pieces import ends_of
from railshut.rows import lead
from tests.model import AT_HOME, HOME, POSES, STEPS, laid_by_steps, plane


class EndsOf(unittest.TestCase):
    def test_each_kind_at_home(self):
        for kind, expected in AT_HOME.items():
            self.assertEqual(ends_of(kind, HOME), expected)

    def test_each_kind_at_told_poses(self):
        for kind, pose, expected in (
            ("S", (0, 0, -2, 0, 7), ((0, 0, -2, 0, 3), (0, 0, -2, -2, 7))),
            ("H", (1, 2, 3, 4, 4), ((1, 2, 3, 4, 0), (0, 2, 3, 4, 4))),
            ("C", (1, 0, 0, 0, 1), ((1, 0, 0, 0, 5), (3, 0, 0, 2, 2))),
            ("C", (0, 0, 0, 0, 7), ((0, 0, 0, 0, 3), (0, 2, -2, 0, 0))),
            ("P", (0, 0, 0, 0, 2), ((0, 0, 0, 0, 6), (0, 0, 2, 0, 2), (-2, 2, 0, 0, 3))),
            ("Q", (0, 0, 0, 0, 2), ((0, 0, 0, 0, 6), (0, 0, 2, 0, 2), (2, 0, 0, 2, 1))),
            ("X", (5, 0, 0, 0, 2), ((5, 0, 0, 0, 6), (5, 0, 2, 0, 2), (4, 0, 1, 0, 4), (6, 0, 1, 0, 0))),
        ):
            self.assertEqual(ends_of(kind, pose), expected, (kind, pose))

    def test_each_kind_at_poses_with_each_heading(self):
        for kind, ends in AT_HOME.items():
            for pose in POSES:
                self.assertEqual(ends_of(kind, pose), tuple(laid_by_steps(pose, end) for end in ends), (kind, pose))

    def test_end_0_faces_back_at_the_pose(self):
        for kind in AT_HOME:
            for pose in POSES:
                self.assertEqual(ends_of(kind, pose)[0], pose[:4] + ((pose[4] + 4) % 8,))

    def test_the_ends_lie_where_rows_lead(self):
        for pose in POSES:
            self.assertEqual(ends_of("S", pose)[1], lead(pose, "S"))
            self.assertEqual(ends_of("H", pose)[1], lead(pose, "H"))
            self.assertEqual(ends_of("C", pose)[1], lead(pose, "L"))
            self.assertEqual(ends_of("P", pose)[1:], (lead(pose, "S"), lead(pose, "L")))
            self.assertEqual(ends_of("Q", pose)[1:], (lead(pose, "S"), lead(pose, "R")))

    def test_the_ends_of_a_crossing_lie_round_its_middle(self):
        for pose in POSES[:40]:
            middle = plane(lead(pose, "H")[:4])
            for end in ends_of("X", pose):
                away = plane(end[:4]) - middle
                self.assertAlmostEqual(abs(away - plane(STEPS[end[4]])), 0)


class Arguments(unittest.TestCase):
    def test_no_function_changes_them(self):
        pose = (1, 2, 3, 4, 5)
        for kind in AT_HOME:
            self.assertEqual(ends_of(kind, pose), ends_of(kind, pose))
            self.assertIs(type(ends_of(kind, pose)), tuple)
        self.assertEqual(pose, (1, 2, 3, 4, 5))
