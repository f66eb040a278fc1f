"""The machine, which knows nothing of what is wished."""

from shopwhole.blocks import is_move
from shopwhole.errors import Alarm
from shopwhole.lots import line_lot
from shopwhole.plain import with_number
from shopwhole.solids import barred, bounds, do_meet, less, meet, moved, swept
from shopwhole.worktable import Worktable


def first_met(start, axis, to, tool, solid):
    """The number along an axis at which a tool, on its way from a standing, meets a solid first; None if nowhere."""
    lot = line_lot(start, axis, to)
    met = meet(swept(lot, tool), solid)
    if met == ():
        return None
    low, high = bounds(meet(lot, barred(tool, met)))
    return low[axis] if to >= start[axis] else high[axis] - 1


def nearest(at, numbers):
    """That of some numbers, or None, which is nearest to a number; None if there is none."""
    return min([number for number in numbers if number is not None], key=lambda told: abs(told - at), default=None)


class Motor(Worktable):
    """The machine."""

    def __init__(self, job):
        Worktable.__init__(self, job)
        self.steps = 0

    def do(self, block):
        """Does a block, or raises Alarm at the step where it cannot go on."""
        why = None
        if is_move(block):
            why = self.why_no_further(block[0] == "cut", block[1], block[2])
        elif block[0] != "rest":
            why = self.take(block)
        if why is not None:
            raise Alarm(why)

    def why_no_further(self, is_cut, axis, to):
        """Goes along an axis as far as it can; why no further, None at its end."""
        if not self.is_ready():
            return "a move ahead of a setup or a tool"
        at = self.standing[axis]
        way = 1 if to >= at else -1
        end = min(max(to, self.job[3][0][axis]), self.job[3][1][axis])
        outside = None if end == to else end + way
        fixed, held = self.where_stopped(is_cut, axis, end)
        ahead = nearest(at, [outside, fixed])
        stop = nearest(at, [ahead, held])
        last = to if stop is None else stop - way
        if is_cut:
            # Where the holder is stopped, the cutter, which comes first, has done its part of the step.
            self.cut(line_lot(self.standing, axis, last if stop == ahead else stop))
        self.steps += abs(last - at)
        self.standing = with_number(self.standing, axis, last)
        if stop is None:
            return None
        if stop == outside:
            return "out of the travel"
        return "the cutter is stopped" if stop == ahead else "the holder is stopped"

    def where_stopped(self, is_cut, axis, end):
        """The numbers, within the travel, at which the cutter and the holder cannot go on; None for nowhere."""
        start, cutter, holder = self.standing, self.cutter(), self.holder()
        fixed = [first_met(start, axis, end, cutter, self.fixture())]
        held = [first_met(start, axis, end, holder, self.fixture())]
        if is_cut:
            held.append(self.where_stock_stops(axis, end))
        else:
            fixed.append(first_met(start, axis, end, cutter, self.stuff))
            held.append(first_met(start, axis, end, holder, self.stuff))
        return nearest(start[axis], fixed), nearest(start[axis], held)

    def where_stock_stops(self, axis, end):
        """The number at which the holder meets stock that the cutter hasn't taken till then; None for nowhere."""
        at, left = self.standing, self.stuff
        while True:
            number = first_met(at, axis, end, self.holder(), left)
            if number is None:
                return None
            left = less(left, swept(line_lot(at, axis, number), self.cutter()))
            at = with_number(at, axis, number)
            if do_meet(moved(self.holder(), at), left):
                return number


def run_motor(job, program):
    """(("done", standing) or ("alarm", number, why), stock) of a program on the machine."""
    motor = Motor(job)
    for number, block in enumerate(program):
        try:
            motor.do(block)
        except Alarm as alarm:
            return ("alarm", number, alarm.why), motor.stock
    return ("done", motor.standing), motor.stock
