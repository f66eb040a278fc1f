"""Views: the shadows of solids along the axes, and the greatest solid that has them."""

from shopwhole.plain import with_number
from shopwhole.solids import bounds, box, boxes_of, meet, union_of


def drawn_out(solid, axis, low, high):
    """The union of a solid's boxes, each drawn along an axis from one number to another."""
    return union_of([box(with_number(corner, axis, low), with_number(other, axis, high))
                     for corner, other in boxes_of(solid)])


def view(solid, axis):
    """The view of a solid along an axis: its shadow, from 0 to 1 along it."""
    return drawn_out(solid, axis, 0, 1)


def views(solid):
    """The three views of a solid."""
    return view(solid, 0), view(solid, 1), view(solid, 2)


def shown(told, axis):
    """What a view along an axis has where views lie, from 0 to 1: all else of it shows nothing."""
    if told == ():
        return ()
    low, high = bounds(told)
    return meet(told, box(with_number(low, axis, 0), with_number(high, axis, 1)))


def room(told, axis):
    """The stretch along an axis in which a solid of two views must be, each not along it."""
    ends = [bounds(solid) for solid in told]
    return min([low[axis] for low, _ in ends]), max([high[axis] for _, high in ends])


def greatest_with(told):
    """The greatest solid whose views are within three views."""
    parts = [shown(told[axis], axis) for axis in range(3)]
    if () in parts:
        return ()
    out = None
    for axis in range(3):
        low, high = room(parts[:axis] + parts[axis + 1:], axis)
        drawn = drawn_out(parts[axis], axis, low, high)
        out = drawn if out is None else meet(out, drawn)
    return out


def fits_views(solid, told):
    """Whether a solid has just three views."""
    return views(solid) == told


def are_views(told):
    """Whether some solid has just three views."""
    return fits_views(greatest_with(told), told)
