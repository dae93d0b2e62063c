"""Joinings of two open ends of a layout (u1, u2)."""

from railshut.boxes import holds, rows_between
from railshut.errors import BadPiece
from railshut.layouts import ends_in, joints_in, pieces_along, reason_against
from railshut.poses import back
from railshut.rows import lead


def is_joining(layout, first, second, box, row):
    """Whether the row is a joining of the two ends by the box."""
    pose, goal = _pose_and_goal(layout, first, second)
    return holds(box, row) and lead(pose, row) == goal and _can_be_laid(layout, pose, row)


def shortest_joining(layout, first, second, box):
    """The joining with the fewest pieces, the first one of several; None if there is none."""
    pose, goal = _pose_and_goal(layout, first, second)
    for many in range(sum(box) + 1):
        for row in rows_between(pose, goal, box, many):
            if _can_be_laid(layout, pose, row):
                return row
    return None


def _pose_and_goal(layout, first, second):
    """The pose from which a joining of the two ends leads, and the one to which it leads."""
    pose_of = {(number, end): pose for number, end, pose in ends_in(layout)}
    if first not in pose_of or second not in pose_of:
        raise BadPiece("no such end")
    joints = joints_in(layout)
    if first in joints or second in joints:
        raise BadPiece("joined")
    return pose_of[first], back(pose_of[second])


def _can_be_laid(layout, pose, row):
    return reason_against(layout, pieces_along(pose, row)) is None
