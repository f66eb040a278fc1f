"""Views: the shadows of solids along the axes, and the greatest solid that has them."""

from shopwhole.forms import merged, put
from shopwhole.plain import with_number
from shopwhole.solids import bounds, box, meet, union_of


def drawn_layer(layer, axis, low, high):
    """What a layer's boxes are together, each drawn along x, or y, from one number to another."""
    if axis == 1:
        return ((low, high, merged(sorted([stretch for _, _, row in layer for stretch in row]))),)
    out = []
    for near, far, _ in layer:
        put(out, near, far, ((low, high),))
    return tuple(out)


def drawn_out(solid, axis, low, high):
    """What a solid's boxes are together, each drawn along an axis from one number to another."""
    if axis == 2:
        return union_of([((low, high, layer),) for _, _, layer in solid])
    out = []
    for under, over, layer in solid:
        put(out, under, over, drawn_layer(layer, axis, low, high))
    return tuple(out)


def view(solid, axis):
    """The view of a solid along an axis: its shadow, from 0 to 1 along it."""
    return drawn_out(solid, axis, 0, 1)


def views(solid):
    """The three views of a solid."""
    return view(solid, 0), view(solid, 1), view(solid, 2)


def shown(told, axis):
    """What of a thing told for a view lies where views do, from 0 to 1 along their axis."""
    if told == ():
        return ()
    low, high = bounds(told)
    return meet(told, box(with_number(low, axis, 0), with_number(high, axis, 1)))


def greatest_with(told):
    """The greatest solid whose views are within three views."""
    parts = [shown(told[axis], axis) for axis in range(3)]
    if () in parts:
        return ()
    drawn = []
    for axis in range(3):
        # How far the solid goes along the axis another view tells: the one ahead, or the last one.
        low, high = bounds(parts[axis - 1])
        drawn.append(drawn_out(parts[axis], axis, low[axis], high[axis]))
    return meet(meet(drawn[0], drawn[1]), drawn[2])


def fits_views(solid, told):
    """Whether a solid has just three views."""
    return views(solid) == told


def are_views(told):
    """Whether some solid has just three views."""
    return fits_views(greatest_with(told), told)
