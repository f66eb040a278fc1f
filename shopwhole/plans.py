"""Programs for jobs, or papers that there is none."""

from shopwhole.closure import Pairings, rounds_by
from shopwhole.jobs import is_fine
from shopwhole.strokes import strokes_for
from shopwhole.tape import Tape
from shopwhole.ways import units_between


def nearer_first(standing, stroke):
    """The ends of a stroke, that one first which is nearer to a standing."""
    begin, end = stroke
    if units_between(standing, end) < units_between(standing, begin):
        return end, begin
    return begin, end


class Planner(Pairings):
    """What a program is made of, worked out when it is asked for."""

    def blocks_for(self, setup, tool, lot, rest):
        """The blocks from home over all strokes of a tool in a setup and home again, if so much is left ahead."""
        tape = Tape((rest, *self.job[1:]))
        tape.take(("setup", self.job[5][setup][0]))
        tape.take(("tool", self.job[4][tool][0]))
        for stroke in strokes_for(lot, tape.cutter(), tape.stuff):
            begin, end = nearer_first(tape.standing, stroke)
            tape.do_stroke(lot, begin, end)
        tape.go_to(lot, tape.home)
        return tuple(tape.blocks)


def program_by(job, planner):
    """("made", program), a good one that leaves closure's rest, or ("never", paper), by a planner's answers."""
    paper, rounds = rounds_by(job, planner)
    if not is_fine(job, paper[0]):
        return "never", paper
    out, taken = [], [None, None]
    for setup, tool, lot, rest in rounds:
        if taken[0] != setup:
            out.append(("setup", job[5][setup][0]))
        if taken[1] != tool:
            out.append(("tool", job[4][tool][0]))
        taken = [setup, tool]
        out.extend(planner.blocks_for(setup, tool, lot, rest))
    return "made", tuple(out)


def program_for(job):
    """("made", program), a good one that leaves closure's rest, or ("never", paper)."""
    return program_by(job, Planner(job))
