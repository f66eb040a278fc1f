"""Programs for jobs, or papers that there is none."""

from shopwhole.closure import rounds_of
from shopwhole.jobs import is_fine
from shopwhole.strokes import strokes_for
from shopwhole.tape import Tape
from shopwhole.ways import units_between


def nearer_first(standing, stroke):
    """The ends of a stroke, that one first which is nearer to a standing."""
    begin, end = stroke
    if units_between(standing, end) < units_between(standing, begin):
        return end, begin
    return begin, end


def program_for(job):
    """("made", program), a good one that leaves closure's rest, or ("never", paper)."""
    paper, rounds = rounds_of(job)
    if not is_fine(job, paper[0]):
        return "never", paper
    tape = Tape(job)
    for setup, tool, lot in rounds:
        tape.change_to(setup, tool)
        for stroke in strokes_for(lot, tape.cutter(), tape.stuff):
            begin, end = nearer_first(tape.standing, stroke)
            tape.do_stroke(lot, begin, end)
        tape.go_to(lot, tape.home)
    return "made", tuple(tape.blocks)
