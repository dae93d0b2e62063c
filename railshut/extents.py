"""Extents: how much room a layout takes (w1 to w3)."""

from railshut.layouts import ends_in
from railshut.poses import turned
from railshut.surds import east, north, surd_compared, surd_less


def extent(layout):
    """(west, south, east, north), the least and the greatest coordinates of all ends; None without pieces."""
    return _extent_of(_positions_in(layout))


def size(layout):
    """The pair (east less west, north less south); None without pieces."""
    return _size_of(_positions_in(layout))


def fits_on(layout, width, height):
    """Whether the layout fits on a table, as it lies."""
    return _fit_on(_positions_in(layout), width, height)


def least_turn(layout, width, height):
    """The least number of eighths by which the layout is turned and fits on a table; None if there is none."""
    positions = _positions_in(layout)
    for eighths in range(8):
        if _fit_on([turned(position, eighths) for position in positions], width, height):
            return eighths
    return None


def _positions_in(layout):
    """The positions of all ends."""
    return [pose[:4] for _, _, pose in ends_in(layout)]


def _extent_of(positions):
    if not positions:
        return None
    west, most_east = _least_and_greatest([east(position) for position in positions])
    south, most_north = _least_and_greatest([north(position) for position in positions])
    return (west, south, most_east, most_north)


def _size_of(positions):
    if not positions:
        return None
    west, south, most_east, most_north = _extent_of(positions)
    return (surd_less(most_east, west), surd_less(most_north, south))


def _fit_on(positions, width, height):
    if not positions:
        return True
    room = ((2 * width, 0), (2 * height, 0))
    return all([surd_compared(taken, most) <= 0 for taken, most in zip(_size_of(positions), room)])


def _least_and_greatest(surds):
    least = greatest = surds[0]
    for surd in surds:
        if surd_compared(surd, least) < 0:
            least = surd
        if surd_compared(surd, greatest) > 0:
            greatest = surd
    return least, greatest
