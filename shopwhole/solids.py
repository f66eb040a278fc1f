"""Solids: unions of boxes along the axes, in one form, and lots of standings, which are solids, too."""

from shopwhole.forms import combined, count_of, grown, joined_layers, less_layers, met_layers, met_rows, stretch_at
from shopwhole.hanging import groups_of, number_of_box, parted
from shopwhole.plain import is_integer


def is_stretch(thing, many):
    """Whether a thing is a tuple of so many items, of which the first two are integers, the less one ahead."""
    return (isinstance(thing, tuple) and len(thing) == many and is_integer(thing[0])
            and is_integer(thing[1]) and thing[0] < thing[1])


def is_row(thing):
    """Whether a thing is a row in its form."""
    if not isinstance(thing, tuple) or not thing:
        return False
    end = None
    for stretch in thing:
        if not is_stretch(stretch, 2) or (end is not None and stretch[0] <= end):
            return False
        end = stretch[1]
    return True


def are_slabs(thing, is_inside):
    """Whether a thing is a tuple of slabs in its form, perhaps empty, with insides of a kind."""
    if not isinstance(thing, tuple):
        return False
    last = None
    for slab in thing:
        if not is_stretch(slab, 3) or not is_inside(slab[2]):
            return False
        if last is not None:
            if slab[0] < last[1] or (slab[0] == last[1] and slab[2] == last[2]):
                return False
        last = slab
    return True


def is_layer(thing):
    """Whether a thing is a layer in its form."""
    return are_slabs(thing, is_row) and thing != ()


def is_solid(thing):
    """Whether a thing is a solid in its form."""
    return are_slabs(thing, is_layer)


def box(corner, other):
    """The box between two corners, () unless each number of the first is less."""
    if corner[0] >= other[0] or corner[1] >= other[1] or corner[2] >= other[2]:
        return ()
    row = ((corner[0], other[0]),)
    return ((corner[2], other[2], ((corner[1], other[1], row),)),)


def union(a, b):
    """What one of two solids has."""
    return combined(a, b, joined_layers, (True, True))


def meet(a, b):
    """What both of two solids have."""
    return combined(a, b, met_layers, (False, False))


def less(a, b):
    """What the first solid has and the second one hasn't."""
    return combined(a, b, less_layers, (True, False))


def union_of(solids):
    """What one of some solids has."""
    # By halves, as a union of two costs what both have: one by one, the first would be gone over each time.
    rows = list(solids)
    while len(rows) > 1:
        rows = [union(rows[k], rows[k + 1]) if k + 1 < len(rows) else rows[k] for k in range(0, len(rows), 2)]
    return rows[0] if rows else ()


def is_within(a, b):
    """Whether the first solid is in the second one."""
    return less(a, b) == ()


def do_meet(a, b):
    """Whether two solids have something in common."""
    return meet(a, b) != ()


def boxes_of(solid):
    """The list of the boxes (corner, corner) of a solid's form, in its order."""
    out = []
    for z0, z1, layer in solid:
        for y0, y1, row in layer:
            for x0, x1 in row:
                out.append(((x0, y0, z0), (x1, y1, z1)))
    return out


def length_of_row(row):
    """How many units a row has."""
    return sum([high - low for low, high in row])


def area_of_layer(layer):
    """How many unit squares a layer has."""
    return sum([(high - low) * length_of_row(row) for low, high, row in layer])


def volume(solid):
    """How many unit cubes a solid has."""
    return sum([(high - low) * area_of_layer(layer) for low, high, layer in solid])


def change_between(slabs, size, both):
    """How much, at the ends of all slabs, is on one side alone: size of an inside, both of two that touch."""
    total = 0
    for _, _, inside in slabs:
        total += 2 * size(inside)
    for one, other in zip(slabs, slabs[1:]):
        if one[1] == other[0]:
            total -= 2 * size(both(one[2], other[2]))
    return total


def rim_of_layer(layer):
    """How many unit edges are round a layer."""
    across = sum([2 * len(row) * (high - low) for low, high, row in layer])
    return across + change_between(layer, length_of_row, met_rows)


def area(solid):
    """How many unit squares all faces of a solid have."""
    upright = sum([(high - low) * rim_of_layer(layer) for low, high, layer in solid])
    return upright + change_between(solid, area_of_layer, met_layers)


def bounds(solid):
    """The corners of the least box round a solid, None for ()."""
    if solid == ():
        return None
    rows = [slab for _, _, layer in solid for slab in layer]
    low = (min([row[0][0] for _, _, row in rows]), min([slab[0] for slab in rows]), solid[0][0])
    high = (max([row[-1][1] for _, _, row in rows]), max([slab[1] for slab in rows]), solid[-1][1])
    return low, high


def has(solid, point):
    """Whether the unit cube from a point on is in a solid."""
    slab = stretch_at(solid, point[2])
    if slab is None:
        return False
    stretch = stretch_at(slab[2], point[1])
    return stretch is not None and stretch_at(stretch[2], point[0]) is not None


def moved_layer(layer, by):
    """A layer moved along x and y."""
    return tuple([(y0 + by[1], y1 + by[1], tuple([(x0 + by[0], x1 + by[0]) for x0, x1 in row]))
                  for y0, y1, row in layer])


def moved(solid, by):
    """A solid moved by three numbers."""
    return tuple([(z0 + by[2], z1 + by[2], moved_layer(layer, by)) for z0, z1, layer in solid])


def mirrored_row(row):
    """A row with minus each x."""
    return tuple([(-high, -low) for low, high in row[::-1]])


def mirrored_layer(layer, axis):
    """A layer with minus each x, or y."""
    if axis == 0:
        return tuple([(low, high, mirrored_row(row)) for low, high, row in layer])
    return tuple([(-high, -low, row) for low, high, row in layer[::-1]])


def mirrored(solid, axis):
    """A solid with minus each number along an axis."""
    if axis == 2:
        return tuple([(-high, -low, layer) for low, high, layer in solid[::-1]])
    return tuple([(low, high, mirrored_layer(layer, axis)) for low, high, layer in solid])


def spread(solid, by):
    """The union of all boxes of a solid, each grown to all six sides."""
    return grown(solid, (-by, -by, -by), (by, by, by))


def pieces(solid):
    """The ascending list of the parts of a solid that hang together by faces."""
    return sorted(list(parted(solid, groups_of(solid)).values()))


def piece_with(solid, point):
    """The part that hangs together and has the unit cube from a point on, () without one."""
    number = number_of_box(solid, point)
    if number is None:
        return ()
    groups = groups_of(solid)
    return parted(solid, groups)[groups[number]]


def swept(lot, tool):
    """What a tool takes up at all standings of a lot together."""
    # Both may be taken for the tool: what comes is all sums of a cube of the one and a cube of the other.
    many, few = (lot, tool) if count_of(tool) <= count_of(lot) else (tool, lot)
    return union_of([grown(many, low, (high[0] - 1, high[1] - 1, high[2] - 1)) for low, high in boxes_of(few)])


def barred(tool, solid):
    """The lot of all standings at which a tool meets a solid."""
    turned_about = mirrored(mirrored(mirrored(tool, 0), 1), 2)
    return swept(solid, moved(turned_about, (1, 1, 1)))


def neighbours(lot):
    """A lot and all standings one step along an axis from one of it."""
    return union_of([grown(lot, (-1, 0, 0), (1, 0, 0)), grown(lot, (0, -1, 0), (0, 1, 0)),
                     grown(lot, (0, 0, -1), (0, 0, 1))])
