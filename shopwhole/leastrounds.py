"""Programs by least rounds: from home over strokes and back by least ways, in an order that is shown least."""

from shopwhole.closure import rounds_of
from shopwhole.jobs import is_fine
from shopwhole.lots import line_lot
from shopwhole.orders import MOST_STROKES, costs_between, heights_of, is_least_order, is_state, least_order, other_end
from shopwhole.plain import is_count, is_point, is_tuple_of
from shopwhole.solids import is_solid, is_within
from shopwhole.strokes import strokes_for
from shopwhole.tape import Tape
from shopwhole.ways import length_of, way_in


class Distances:
    """How far standings are apart within a lot."""

    def __init__(self, lot):
        self.lot = lot
        self.known = {}

    def between(self, one, other):
        """The length of a least way, None without one."""
        pair = (min(one, other), max(one, other))
        if pair not in self.known:
            way = way_in(self.lot, *pair)
            self.known[pair] = None if way is None else length_of(way)
        return self.known[pair]


def ends_of(strokes):
    """The list of the ends of strokes, in their order."""
    return [end for stroke in strokes for end in stroke]


def costs_of(lot, strokes, home):
    """The costs for the ends of strokes, by least ways within a lot."""
    distances = Distances(lot)
    return costs_between(ends_of(strokes), home, lambda one, other: distances.between(one, other))


def round_for(setup, tool, lot, strokes, home):
    """The round of strokes, with a least order unless they are too many."""
    if len(strokes) > MOST_STROKES:
        return setup, tool, lot, strokes, None, None
    costs = costs_of(lot, strokes, home)
    return setup, tool, lot, strokes, least_order(costs)[1], tuple(list(heights_of(costs).items()))


def as_told(told):
    """The list of the strokes of a round, (where it is begun, where it is left), as they are done."""
    ends, order = ends_of(told[3]), told[4]
    if order is None:
        return list(told[3])
    return [(ends[end], ends[other_end(end)]) for end in order]


def least_program(job):
    """("made", program, rounds), a good program by least rounds, or ("never", paper)."""
    paper, rounds = rounds_of(job)
    if not is_fine(job, paper[0]):
        return "never", paper
    tape = Tape(job)
    out = []
    for setup, tool, lot, _ in rounds:
        tape.change_to(setup, tool)
        told = round_for(setup, tool, lot, tuple(strokes_for(lot, tape.cutter(), tape.stuff)), tape.home)
        for begin, end in as_told(told):
            tape.do_stroke(lot, begin, end)
        tape.go_to(lot, tape.home)
        out.append(told)
    return "made", tuple(tape.blocks), tuple(out)


def is_stroke(lot, thing):
    """Whether a thing is a stroke within a lot."""
    if not is_tuple_of(thing, 2) or not is_point(thing[0]) or not is_point(thing[1]):
        return False
    begin, end = thing
    return begin[0] <= end[0] and begin[1:] == end[1:] and is_within(line_lot(begin, 0, end[0]), lot)


def is_round(job, thing):
    """Whether a thing is a round, whatever its order and heights are."""
    if not is_tuple_of(thing, 6):
        return False
    setup, tool, lot, strokes = thing[:4]
    if not is_count(setup, 0, len(job[5]) - 1) or not is_count(tool, 0, len(job[4]) - 1) or not is_solid(lot):
        return False
    return isinstance(strokes, (tuple, list)) and all([is_stroke(lot, stroke) for stroke in strokes])


def is_least_round(job, told):
    """Whether a round's order is shown least by its heights, or strokes are too many for one of both."""
    if not is_round(job, told):
        return False
    lot, strokes, order, heights = told[2:]
    if order is None or heights is None:
        return len(strokes) > MOST_STROKES
    # Ways are looked for only where heights begin as they must: of many strokes there are many ways.
    if not isinstance(heights, tuple) or (((), -1), 0) not in heights:
        return False
    costs = costs_of(lot, strokes, job[3][2])
    if not all([is_tuple_of(pair, 2) and is_state(costs, pair[0]) for pair in heights]):
        return False
    return is_least_order(costs, order, {state: height for state, height in heights})


def way_of_round(job, told):
    """How far a round goes beside its strokes, from home to home; None if there is no way."""
    distances, home = Distances(told[2]), job[3][2]
    total, at = 0, home
    for begin, end in as_told(told) + [(home, home)]:
        units = distances.between(at, begin)
        if units is None:
            return None
        total += units
        at = end
    return total
