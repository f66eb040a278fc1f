"""Least ways within a lot of standings, and papers that show that they are least, or that there are none."""

from heapq import heappop, heappush

from shopwhole.lots import line_lot
from shopwhole.plain import is_integer, is_point
from shopwhole.planes import Planes
from shopwhole.solids import do_meet, has, is_solid, is_within, less, neighbours


def units_between(one, other):
    """How far two standings are apart if nothing is in the way."""
    return sum([abs(one[axis] - other[axis]) for axis in range(3)])


def axes_between(one, other):
    """The list of the axes along which two standings differ."""
    return [axis for axis in range(3) if one[axis] != other[axis]]


def is_leg(lot, one, other):
    """Whether a standing is elsewhere along one axis, and all between are in a lot."""
    axes = axes_between(one, other)
    return len(axes) == 1 and is_within(line_lot(one, axes[0], other[axes[0]]), lot)


def is_way(lot, way):
    """Whether a thing is a way within a lot."""
    if not isinstance(way, tuple) or not way or not all([is_point(standing) for standing in way]):
        return False
    return has(lot, way[0]) and all([is_leg(lot, one, other) for one, other in zip(way, way[1:])])


def length_of(way):
    """How many units a way has."""
    return sum([units_between(one, other) for one, other in zip(way, way[1:])])


def turns_of(steps):
    """The way of standings, each along an axis from the one ahead, without those at which it goes straight on."""
    out = steps[:1]
    for standing in steps[1:]:
        if len(out) > 1 and axes_between(out[-2], out[-1]) == axes_between(out[-1], standing):
            out[-1] = standing
        else:
            out.append(standing)
    return tuple(out)


def traced(before, end):
    """The list of standings from where there is none ahead to an end."""
    out = [end]
    while before[out[-1]] is not None:
        out.append(before[out[-1]])
    return out[::-1]


def way_in(lot, start, end):
    """A least way within a lot from one standing to another, None if there is none."""
    if not has(lot, start) or not has(lot, end):
        return None
    planes = Planes(lot, start, end)
    costs, before, done = {start: 0}, {start: None}, {}
    queue = [(units_between(start, end), units_between(start, end), start)]
    while queue:
        point = heappop(queue)[2]
        if point == end:
            return turns_of(traced(before, end))
        if point in done:
            continue
        done[point] = True
        for there, step in planes.beside(point):
            cost = costs[point] + step
            if there not in costs or cost < costs[there]:
                costs[there], before[there] = cost, point
                left = units_between(there, end)
                heappush(queue, (cost + left, left, there))
    return None


def heights_for(lot, start, end):
    """How far all points on the planes are from a start in the lot, that can be come to from it."""
    heights = {}
    planes = Planes(lot, start, end)
    queue = [(0, start)] if has(lot, start) else []
    while queue:
        height, point = heappop(queue)
        if point not in heights:
            heights[point] = height
            for there, step in planes.beside(point):
                if there not in heights:
                    heappush(queue, (height + step, there))
    return heights


def are_heights(planes, heights):
    """Whether a thing is a dict of points on planes, in the lot, to integers."""
    if not isinstance(heights, dict):
        return False
    for point, height in heights.items():
        if not is_point(point) or not is_integer(height):
            return False
        if not planes.is_on(point) or planes.ranges(point) is None:
            return False
    return True


def is_least_way(lot, way, heights):
    """Whether a way is one within the lot, and heights show that none between its ends is shorter."""
    if not is_way(lot, way):
        return False
    planes = Planes(lot, way[0], way[-1])
    if not are_heights(planes, heights) or way[0] not in heights or way[-1] not in heights:
        return False
    if heights[way[0]] != 0 or heights[way[-1]] != length_of(way):
        return False
    for point, height in heights.items():
        for there, step in planes.beside(point):
            if there not in heights or heights[there] > height + step:
                return False
    return True


def is_parted(lot, start, end, side):
    """Whether a side of the lot shows that no way leads from one standing of it to another."""
    if not is_solid(side) or not is_within(side, lot):
        return False
    if not has(side, start) or not has(lot, end) or has(side, end):
        return False
    return not do_meet(less(neighbours(side), side), lot)
