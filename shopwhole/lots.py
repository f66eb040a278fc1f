"""Lots of standings: solids of the unit cubes from them on."""

from shopwhole.plain import added, sorted_corners, with_number
from shopwhole.solids import box


def cube_at(standing):
    """The lot of one standing alone."""
    return box(standing, added(standing, (1, 1, 1)))


def line_lot(start, axis, to):
    """All standings from one to that with the number to along an axis, both in."""
    low, high = sorted_corners(start, with_number(start, axis, to))
    return box(low, added(high, (1, 1, 1)))


def travel_lot(machine):
    """All standings of a machine's travel."""
    return box(machine[0], added(machine[1], (1, 1, 1)))
