"""Many parts on one table: a job, and a program for it, at several places."""

from shopwhole.blocks import is_move, number_of
from shopwhole.jobs import is_job, placed
from shopwhole.lots import line_lot, travel_lot
from shopwhole.plain import added, with_number
from shopwhole.solids import do_meet, has, is_within, moved, swept, union, union_of


def at_places(solid, places):
    """A solid at all places together."""
    return union_of([moved(solid, place) for place in places])


def many_job(job, places):
    """The job of one setup, that turns nothing, with stock, wished solid and fixture at all places."""
    name, turn, by, fixture = job[5][0]
    setup = (name, turn, by, at_places(fixture, places))
    return (at_places(job[0], places), at_places(job[1], places), *job[2:5], (setup,))


def rounds_of_tools(program):
    """The list of (block of a tool, the list of the moves up to the next such block)."""
    out = []
    for block in program:
        if block[0] == "tool":
            out.append((block, []))
        elif is_move(block) and out:
            out[-1][1].append(block)
    return out


def way_out(home, place):
    """The list of rapid moves from home to home moved by a place."""
    return [("rapid", axis, home[axis] + place[axis]) for axis in range(3) if place[axis] != 0]


def way_back(home, place):
    """The list of rapid moves the same way back."""
    return [("rapid", axis, home[axis]) for axis in (2, 1, 0) if place[axis] != 0]


def moved_moves(moves, place):
    """The list of moves moved by a place."""
    return [(word, axis, to + place[axis]) for word, axis, to in moves]


def many_program(job, program, places):
    """The program that does, for each tool that a program takes, its moves at all places."""
    home = job[3][2]
    out = [("setup", job[5][0][0])]
    for block, moves in rounds_of_tools(program):
        out.append(block)
        for place in places:
            out.extend([*way_out(home, place), *moved_moves(moves, place), *way_back(home, place)])
    return tuple(out)


def lot_of(start, moves):
    """All standings of moves from a standing on, this one too."""
    lots, at = [line_lot(start, 0, start[0])], start
    for _, axis, to in moves:
        lots.append(line_lot(at, axis, to))
        at = with_number(at, axis, to)
    return union_of(lots)


def is_clear_round(job, lot, tool, stuffs, places):
    """Whether a tool, whose moves are at a lot's standings, is clear of stuffs on all ways, and at other places."""
    travel, home, whole = travel_lot(job[3]), job[3][2], union(tool[1], tool[2])
    taken_up = swept(lot, whole)
    for number, place in enumerate(places):
        if not is_within(moved(lot, place), travel):
            return False
        if do_meet(swept(lot_of(home, way_out(home, place)), whole), union_of(stuffs)):
            return False
        others = union_of([*stuffs[:number], *stuffs[number + 1:]])
        if do_meet(moved(taken_up, place), others):
            return False
    return True


def is_clear(job, program, places):
    """Whether the program for many parts is clear: then it is good if the program is."""
    if not is_job(many_job(job, places)):
        return False
    travel, home = travel_lot(job[3]), job[3][2]
    if not all([has(travel, added(home, place)) for place in places]):
        return False
    setup = job[5][0]
    stuff = union(placed(setup, job[0]), setup[3])
    stuffs = [moved(stuff, place) for place in places]
    for block, moves in rounds_of_tools(program):
        number = number_of(job[4], block[1])
        if number is None or not is_clear_round(job, lot_of(home, moves), job[4][number], stuffs, places):
            return False
    return True
