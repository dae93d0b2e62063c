"""Surds: pairs (p, q) that stand for p + q times the root of 2, divided by 2 (z1)."""


def east(position):
    """How many steps to the east the position is, as a surd."""
    a, b, _, d = position
    return (2 * a, b - d)


def north(position):
    """How many steps to the north the position is, as a surd."""
    _, b, c, d = position
    return (2 * c, b + d)


def surd_added(one, other):
    """The sum of two surds."""
    return (one[0] + other[0], one[1] + other[1])


def surd_less(one, other):
    """The first surd minus the second one."""
    return (one[0] - other[0], one[1] - other[1])


def surd_compared(one, other):
    """1 if the first surd is greater than the second one, -1 if it is less, 0 if they are equal."""
    p, q = surd_less(one, other)
    if p == 0 and q == 0:
        return 0
    return 1 if _is_above_nought(p, q) else -1


def _is_above_nought(p, q):
    """Whether a surd other than (0, 0) is above 0: only integers are compared, nothing is rounded."""
    if p >= 0 and q >= 0:
        return True
    if p > 0:
        return p * p > 2 * q * q
    return q > 0 and 2 * q * q > p * p
