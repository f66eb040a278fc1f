"""What plain values are."""


def is_integer(thing):
    """Whether a thing is an integer; True and False are none."""
    return isinstance(thing, int) and not isinstance(thing, bool)


def is_count(thing, low, high):
    """Whether a thing is an integer from low to high."""
    return is_integer(thing) and low <= thing <= high


def is_point(thing):
    """Whether a thing is a tuple of three integers."""
    return isinstance(thing, tuple) and len(thing) == 3 and all([is_integer(number) for number in thing])


def is_tuple_of(thing, many):
    """Whether a thing is a tuple of so many items."""
    return isinstance(thing, tuple) and len(thing) == many


def added(point, other):
    """The sum of two points."""
    return (point[0] + other[0], point[1] + other[1], point[2] + other[2])


def times(point, factor):
    """A point so many times."""
    return (point[0] * factor, point[1] * factor, point[2] * factor)


def sorted_corners(one, other):
    """The near and the far corner of the box between two corners, either way round."""
    pairs = [(min(one[axis], other[axis]), max(one[axis], other[axis])) for axis in range(3)]
    return tuple([low for low, _ in pairs]), tuple([high for _, high in pairs])


def with_number(point, axis, number):
    """The point with another number along an axis."""
    return (*point[:axis], number, *point[axis + 1:])
