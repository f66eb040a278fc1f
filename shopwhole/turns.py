"""The 24 turnings that lead boxes along the axes to such boxes."""

from shopwhole.plain import sorted_corners
from shopwhole.solids import box, boxes_of, union_of

AXES = ((0, 1, 2), (0, 2, 1), (1, 0, 2), (1, 2, 0), (2, 0, 1), (2, 1, 0))
IS_EVEN = (True, False, False, True, True, False)

# An exchange of two axes mirrors, and so does each minus: a turning has an even number of both together.
EVEN_SIGNS = ((1, 1, 1), (1, -1, -1), (-1, 1, -1), (-1, -1, 1))
ODD_SIGNS = ((1, 1, -1), (1, -1, 1), (-1, 1, 1), (-1, -1, -1))


def axes_of(turn):
    """From which axes a turning takes its numbers."""
    return AXES[turn // 4]


def signs_of(turn):
    """With which signs a turning takes its numbers."""
    return EVEN_SIGNS[turn % 4] if IS_EVEN[turn // 4] else ODD_SIGNS[turn % 4]


def turned_point(point, turn):
    """The point to which a turning leads a point."""
    axes, signs = axes_of(turn), signs_of(turn)
    return (signs[0] * point[axes[0]], signs[1] * point[axes[1]], signs[2] * point[axes[2]])


def turned_box(corner, other, turn):
    """The box to which a turning leads the box between two corners."""
    low, high = sorted_corners(turned_point(corner, turn), turned_point(other, turn))
    return box(low, high)


def turned(solid, turn):
    """The solid to which a turning leads a solid."""
    if turn == 0:
        return solid
    # In ascending order, that boxes that touch are put together early.
    return union_of(sorted([turned_box(corner, other, turn) for corner, other in boxes_of(solid)]))


def after(one, other):
    """The number of one turning and then the other."""
    wanted = turned_point(turned_point((1, 2, 3), one), other)
    return [turned_point((1, 2, 3), turn) for turn in range(24)].index(wanted)


def back(turn):
    """The number of what undoes a turning."""
    return [after(turn, other) for other in range(24)].index(0)
