"""Loads: how much the cutter takes on each step."""

from shopwhole.blocks import is_move
from shopwhole.lots import line_lot
from shopwhole.plain import with_number
from shopwhole.solids import boxes_of, less, meet, mirrored, moved, swept, volume
from shopwhole.timeline import Clock
from shopwhole.worktable import Worktable

ORIGIN = (0, 0, 0)


def steps_of_growth(stuff, body, axis, units):
    """The ascending list of those steps, among the first ones of a way upward, on which a body may take more."""
    # A step takes what stands where the body's boxes end: more of it where a box of the stuff begins.
    ends = sorted(set([high[axis] for _, high in boxes_of(body)]))
    begins = sorted(set([low[axis] for low, _ in boxes_of(stuff)]))
    steps = sorted(set([begin - end + 1 for begin in begins for end in ends]))
    return [step for step in steps if 1 < step <= units]


def load_upward(stock, body, axis, units):
    """The most that a body takes on a step of a way upward along an axis, and the stock behind it."""
    left = less(stock, body)
    stuff = meet(left, swept(line_lot(ORIGIN, axis, units), body))
    most = 0
    steps = [1, *steps_of_growth(stuff, body, axis, units)] if stuff != () else []
    for step in steps:
        here = moved(body, with_number(ORIGIN, axis, step))
        fresh = less(here, swept(line_lot(ORIGIN, axis, step - 1), body))
        most = max(most, volume(meet(stuff, fresh)))
    return most, less(left, stuff)


def load_of(stock, cutter, start, axis, to):
    """The most that a cutter takes on a step from a standing to a number along an axis, and the stock behind it."""
    body, units = moved(cutter, start), to - start[axis]
    if units >= 0:
        return load_upward(stock, body, axis, units)
    most, left = load_upward(mirrored(stock, axis), mirrored(body, axis), axis, -units)
    return most, mirrored(left, axis)


def loads_of(job, program):
    """For a good program the list of the most that a step of each block takes, 0 for what is no cut."""
    table, out = Worktable(job), []
    for block in program:
        load = 0
        if is_move(block):
            word, axis, to = block
            if word == "cut":
                load = load_of(table.stuff, table.cutter(), table.standing, axis, to)[0]
                table.cut(line_lot(table.standing, axis, to))
            table.standing = with_number(table.standing, axis, to)
        elif block[0] != "rest":
            table.take(block)
        out.append(load)
    return out


def loads_hold(job, program, limits):
    """Whether no step of a tool takes more than its limit, or this is None."""
    clock = Clock(job)
    for block, load in zip(program, loads_of(job, program)):
        clock.pass_block(block)
        limit = limits[clock.tool]
        if limit is not None and load > limit:
            return False
    return True
