"""Blocks with ways in the place of numbers to go to, and back."""

from shopwhole.blocks import is_move
from shopwhole.plain import with_number


def as_ways(program, home):
    """The list of the blocks of a program, begun at home, with ways in the place of numbers to go to."""
    out, at = [], home
    for block in program:
        if is_move(block):
            word, axis, to = block
            out.append((word, axis, to - at[axis]))
            at = with_number(at, axis, to)
        else:
            out.append(block)
    return out


def as_places(blocks, home):
    """The list of blocks, begun at home, with numbers to go to in the place of ways."""
    out, at = [], home
    for block in blocks:
        if is_move(block):
            word, axis, way = block
            at = with_number(at, axis, at[axis] + way)
            out.append((word, axis, at[axis]))
        else:
            out.append(block)
    return out
