"""Strokes: moves along x by which a cutter takes all that it takes anywhere in a lot."""

from shopwhole.forms import stretch_at
from shopwhole.lots import cube_at, line_lot
from shopwhole.plain import with_number
from shopwhole.solids import barred, is_within, less, meet, swept


def lowest_cube(solid):
    """The unit cube of a solid, not nothing, that is lowest, then nearest, then the farthest to the left."""
    low, _, layer = solid[0]
    near, _, row = layer[0]
    return (row[0][0], near, low)


def highest_standing(lot):
    """The standing of a lot, not nothing, that is highest, then farthest along y, then along x."""
    _, above, layer = lot[-1]
    _, beyond, row = layer[-1]
    return (row[-1][1] - 1, beyond - 1, above - 1)


def row_round(lot, standing):
    """The stretch of standings along x, from a number up to another one, in which a standing of a lot is."""
    row = stretch_at(stretch_at(lot, standing[2])[2], standing[1])[2]
    return stretch_at(row, standing[0])


def least_number(low, high, is_enough):
    """The least number from low to high that is enough, as all above it are; high is."""
    while low < high:
        middle = (low + high) // 2
        if is_enough(middle):
            high = middle
        else:
            low = middle + 1
    return low


def shortest(begin, end, cutter, taken):
    """A shortest stroke between the two standings that takes what is taken between them, found from its end on."""
    low, high = begin[0], end[0]
    # Minus the beginning, as a stroke that begins further back takes no less.
    first = -least_number(-high, -low, lambda minus: is_within(
        taken, swept(line_lot(with_number(begin, 0, -minus), 0, high), cutter)))
    start = with_number(begin, 0, first)
    last = least_number(first, high, lambda number: is_within(taken, swept(line_lot(start, 0, number), cutter)))
    return start, with_number(begin, 0, last)


def next_stroke(lot, cutter, left):
    """A stroke within a lot that takes the lowest cube of what is left, and what it takes of it."""
    # The cutter stands as high and far from this cube as it may: so it takes most of what lies beyond.
    standing = highest_standing(meet(lot, barred(cutter, cube_at(lowest_cube(left)))))
    low, high = row_round(lot, standing)
    begin, end = with_number(standing, 0, low), with_number(standing, 0, high - 1)
    taken = meet(left, swept(line_lot(begin, 0, end[0]), cutter))
    return shortest(begin, end, cutter, taken), taken


def strokes_for(lot, cutter, stock):
    """The list of strokes within a lot by which a cutter takes all of the stock that it takes anywhere in it."""
    left = meet(stock, swept(lot, cutter))
    out = []
    while left != ():
        stroke, taken = next_stroke(lot, cutter, left)
        out.append(stroke)
        left = less(left, taken)
    return out
