"""Inspection: what blocks took, faces, slices, probes, and how much is left too much or lacks."""

from shopwhole.forms import stretch_at
from shopwhole.plain import times, with_number
from shopwhole.sides import step_to
from shopwhole.solids import bounds, box, boxes_of, has, is_within, less, meet, moved, spread


def taken_by(stocks):
    """The tuple of what each block took, of what was there ahead of each and behind the last one."""
    return tuple([less(ahead, behind) for ahead, behind in zip(stocks, stocks[1:])])


def taker_of(stocks, point):
    """The number of the block that took the unit cube from a point on, None without one."""
    for number, (ahead, behind) in enumerate(zip(stocks, stocks[1:])):
        if has(ahead, point) and not has(behind, point):
            return number
    return None


def faces_of(solid, side):
    """The unit cubes of a solid beside which, towards a side, nothing of it is."""
    return less(solid, moved(solid, times(step_to(side), -1)))


def faces_made(solid, taken, side):
    """The unit cubes of a solid with a face towards a side beside which stuff was that is taken."""
    return meet(faces_of(solid, side), moved(taken, times(step_to(side), -1)))


def sign_at(layer, x, y):
    """The sign for the unit square from a place on."""
    stretch = stretch_at(layer, y)
    return "." if stretch is None or stretch_at(stretch[2], x) is None else "#"


def slice_text(solid, height):
    """The slice of a solid between a height and the next one, drawn."""
    slab = stretch_at(solid, height)
    if slab is None:
        return ""
    layer = slab[2]
    ys = sorted(set([number for stretch in layer for number in stretch[:2]]))
    xs = sorted(set([number for stretch in layer for ends in stretch[2] for number in ends]))
    lines = ["".join([sign_at(layer, x, y) for x in xs[:-1]]) for y in ys[:-1]]
    return "\n".join(lines[::-1])


def probe(solid, point, side):
    """How many steps towards a side a unit cube goes till it is in a solid, None if never."""
    if solid == ():
        return None
    axis, way = side
    low, high = bounds(solid)
    near = with_number(point, axis, min(low[axis], point[axis]) if way == -1 else point[axis])
    end = point[axis] + 1 if way == -1 else max(high[axis], point[axis] + 1)
    far = with_number((point[0] + 1, point[1] + 1, point[2] + 1), axis, end)
    found = bounds(meet(solid, box(near, far)))
    if found is None:
        return None
    return point[axis] - (found[1][axis] - 1) if way == -1 else found[0][axis] - point[axis]


def reach_of(solid, corner, other):
    """By how much the box between two corners must be spread till a solid is within."""
    low, high = bounds(solid)
    return max(0, max([max(corner[axis] - low[axis], high[axis] - other[axis]) for axis in range(3)]))


def excess(solid, wished):
    """The least number by which what is wished must be spread till a solid is within, None without one."""
    if solid == ():
        return 0
    if wished == ():
        return None
    least, most = 0, min([reach_of(solid, corner, other) for corner, other in boxes_of(wished)])
    while least < most:
        middle = (least + most) // 2
        if is_within(solid, spread(wished, middle)):
            most = middle
        else:
            least = middle + 1
    return least


def lacking(solid, wished):
    """What is wished and a solid hasn't."""
    return less(wished, solid)
