"""Directions, positions and poses (c1, p1, p2)."""

HOME = (0, 0, 0, 0, 0)


def step(direction, many):
    """The position of so many steps in a direction."""
    return turned((many, 0, 0, 0), direction)


def moved(position, other):
    """The sum of two positions."""
    return tuple([one + more for one, more in zip(position, other)])


def turned(position, eighths):
    """The position with each of its steps turned to the left by so many eighths."""
    a, b, c, d = position
    # A step in one of the directions 4 to 7 is one less in the direction 4 less.
    steps = (a, b, c, d, -a, -b, -c, -d)
    return tuple([steps[(direction - eighths) % 8] for direction in range(4)])


def seen(pose, other):
    """The second pose, seen from the first one as its frame."""
    away = tuple([there - here for here, there in zip(pose[:4], other[:4])])
    return turned(away, -pose[4]) + ((other[4] - pose[4]) % 8,)


def laid(pose, other):
    """The pose that is seen from the first one, as its frame, as the second one."""
    return moved(turned(other[:4], pose[4]), pose[:4]) + ((other[4] + pose[4]) % 8,)


def back(pose):
    """The pose with the same position and the opposite heading."""
    return pose[:4] + ((pose[4] + 4) % 8,)
