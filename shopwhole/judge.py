"""The judge, who lets good programs by, whoever wrote them."""

from shopwhole.blocks import is_block, is_move
from shopwhole.jobs import is_fine, placed
from shopwhole.lots import line_lot, travel_lot
from shopwhole.plain import with_number
from shopwhole.solids import do_meet, is_within, swept
from shopwhole.worktable import Worktable


def is_program(thing):
    """Whether a thing is a program."""
    return isinstance(thing, tuple) and all([is_block(block) for block in thing])


class Trial(Worktable):
    """A program before the judge, block by block."""

    def __init__(self, job):
        Worktable.__init__(self, job)
        self.travel = travel_lot(job[3])
        self.wished = ()
        self.ticks = 0

    def why_not(self, block):
        """Lets a block by; why not, None if it is done."""
        if is_move(block):
            return self.why_no_move(block[0] == "cut", block[1], block[2])
        if block[0] == "rest":
            self.ticks += block[1]
            return None
        return self.why_not_taken(block)

    def why_not_taken(self, block):
        """Lets a setup or a tool by; why not, None if it is done."""
        why = self.take(block)
        if why is None:
            if block[0] == "setup":
                self.wished = placed(self.job[5][self.setup], self.job[1])
                self.ticks += self.job[3][5]
            else:
                self.ticks += self.job[3][4]
        return why

    def why_no_move(self, is_cut, axis, to):
        """Lets a move by; why not, None if it is done."""
        if not self.is_ready():
            return "a move ahead of a setup or a tool"
        lot = line_lot(self.standing, axis, to)
        why = self.why_not_along(is_cut, lot)
        if why is None:
            rate = self.job[4][self.tool][3] if is_cut else self.job[3][3]
            self.ticks += abs(to - self.standing[axis]) * rate
            if is_cut:
                self.cut(lot)
            self.standing = with_number(self.standing, axis, to)
        return why

    def why_not_along(self, is_cut, lot):
        """What is in the way of a move at its standings taken together, None for nothing."""
        if not is_within(lot, self.travel):
            return "out of the travel"
        cut, held = swept(lot, self.cutter()), swept(lot, self.holder())
        if do_meet(cut, self.fixture()) or do_meet(held, self.fixture()):
            return "the tool meets the fixture"
        if not is_cut and do_meet(cut, self.stuff):
            return "the cutter meets the stock on a rapid move"
        if is_cut and do_meet(cut, self.wished):
            return "the cutter meets what is wished"
        return "the holder meets the stock" if do_meet(held, self.stuff) else None


def judge(job, program):
    """("good", stock, time), or ("bad", number, why) for the first block that isn't let by."""
    if not is_program(program):
        return "bad", 0, "form"
    trial = Trial(job)
    for number, block in enumerate(program):
        why = trial.why_not(block)
        if why is not None:
            return "bad", number, why
    if trial.standing != trial.home:
        return "bad", len(program), "not at home at the end"
    if not is_fine(job, trial.stock):
        return "bad", len(program), "the stock is not as it is wished"
    return "good", trial.stock, trial.ticks


def is_good(job, program):
    """Whether the judge lets a program by."""
    return judge(job, program)[0] == "good"
