"""Sides: an axis and a way along it, 1 or -1."""

from shopwhole.plain import is_count, is_integer, is_tuple_of, with_number

SIDES = ((0, -1), (0, 1), (1, -1), (1, 1), (2, -1), (2, 1))


def is_side(thing):
    """Whether a thing is a side."""
    return is_tuple_of(thing, 2) and is_count(thing[0], 0, 2) and is_integer(thing[1]) and thing[1] in (-1, 1)


def step_to(side):
    """The step of one unit towards a side."""
    return with_number((0, 0, 0), side[0], side[1])
