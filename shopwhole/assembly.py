"""Parts that go out to sides one after the other, and locks that show that none of a core does."""

from shopwhole.lots import line_lot
from shopwhole.plain import is_tuple_of
from shopwhole.sides import SIDES, is_side
from shopwhole.solids import bounds, do_meet, is_solid, swept

MOST_PARTS = 8


def is_part(thing):
    """Whether a thing is (name, solid)."""
    return is_tuple_of(thing, 2) and isinstance(thing[0], str) and is_solid(thing[1]) and thing[1] != ()


def are_parts(thing):
    """Whether a thing is parts."""
    if not isinstance(thing, tuple) or not 1 <= len(thing) <= MOST_PARTS or not all([is_part(part) for part in thing]):
        return False
    if len(set(names_of(thing))) != len(thing):
        return False
    for number, part in enumerate(thing):
        if any([do_meet(part[1], other[1]) for other in thing[:number]]):
            return False
    return True


def names_of(parts):
    """The list of the names of parts."""
    return [part[0] for part in parts]


def solid_named(parts, name):
    """The solid of the part of a name."""
    return parts[names_of(parts).index(name)][1]


def way_out(parts, solid, side):
    """What a solid takes up on its way towards a side till it is beyond all parts."""
    axis, way = side
    corners = [bounds(part[1]) for part in parts]
    low, high = bounds(solid)
    if way == 1:
        far = max([corner[1][axis] for corner in corners]) - low[axis]
    else:
        far = min([corner[0][axis] for corner in corners]) - high[axis]
    return swept(line_lot((0, 0, 0), axis, far), solid)


def in_the_way(parts, name, side):
    """The list of the names of those that a part meets on its way towards a side, in the order of parts."""
    out = way_out(parts, solid_named(parts, name), side)
    return [other for other, solid in parts if other != name and do_meet(out, solid)]


def parts_without(parts, names):
    """The parts but for those of some names."""
    return tuple([part for part in parts if part[0] not in names])


def parts_of(parts, names):
    """The parts of some names."""
    return tuple([part for part in parts if part[0] in names])


def is_order(parts, order):
    """Whether a thing is pairs (name, side) by which these parts go out one after the other."""
    if not isinstance(order, tuple):
        return False
    left = parts
    for pair in order:
        if not is_tuple_of(pair, 2) or not is_side(pair[1]) or pair[0] not in names_of(left):
            return False
        if in_the_way(left, *pair):
            return False
        left = parts_without(left, [pair[0]])
    return True


def next_out(parts):
    """A pair (name, side) of a part that goes out, None if none does."""
    for name in names_of(parts):
        for side in SIDES:
            if not in_the_way(parts, name, side):
                return name, side
    return None


def taken_apart(parts):
    """(order, core): an order by which parts go out, and the names of those left, of which none does."""
    order, left = [], parts
    while left:
        pair = next_out(left)
        if pair is None:
            break
        order.append(pair)
        left = parts_without(left, [pair[0]])
    return tuple(order), tuple(names_of(left))


def put_together(parts):
    """An order back to front, by which all parts come from their sides; None if there is a core."""
    order, core = taken_apart(parts)
    return None if core else order[::-1]


def locks_of(parts, core):
    """The tuple of (name, side, other) for each part of a core, and each side, to which another one is in its way."""
    inner = parts_of(parts, core)
    out = []
    for name in names_of(inner):
        for side in SIDES:
            out.extend([(name, side, other) for other in in_the_way(inner, name, side)[:1]])
    return tuple(out)


def is_core(parts, thing):
    """Whether a thing is two unlike names of parts at least."""
    if not isinstance(thing, tuple) or len(thing) < 2:
        return False
    if not all([name in names_of(parts) for name in thing]):
        return False
    return len(set(thing)) == len(thing)


def is_locked(parts, core, locks):
    """Whether a core is one, and locks tell for each of its parts and each side another one that is in its way."""
    if not is_core(parts, core) or not is_tuple_of(locks, len(core) * len(SIDES)):
        return False
    inner = parts_of(parts, core)
    wanted = [(name, side) for name in core for side in SIDES]
    for (name, side), lock in zip(wanted, locks):
        if not is_tuple_of(lock, 3) or lock[0] != name or not is_side(lock[1]) or lock[1] != side:
            return False
        if lock[2] not in in_the_way(inner, name, side):
            return False
    return True
