"""Two heads that work on one table: their judge, and the machine."""

from shopwhole.blocks import is_move
from shopwhole.errors import Alarm
from shopwhole.headblocks import is_head_program, meetings_of, parts_of
from shopwhole.jobs import is_fine
from shopwhole.judge import Trial
from shopwhole.lots import cube_at, line_lot
from shopwhole.motor import Motor, first_met
from shopwhole.plain import is_tuple_of
from shopwhole.solids import do_meet, meet, moved, swept, union, union_of


def are_programs(thing):
    """Whether a thing is a pair of programs for two heads, with the same meetings."""
    if not is_tuple_of(thing, 2) or not all([is_head_program(blocks) for blocks in thing]):
        return False
    return meetings_of(thing[0]) == meetings_of(thing[1])


def job_of_head(job, machine):
    """The job as it is for a head of a machine."""
    return (*job[:3], machine, *job[4:])


def whole_tool(table):
    """The cutter and holder of the tool that is taken, () without one."""
    return () if table.tool is None else union(table.cutter(), table.holder())


def meets_anything(table):
    """Whether the tool taken, where it stands, meets stock or fixture."""
    tool = moved(whole_tool(table), table.standing)
    return do_meet(tool, table.stuff) or do_meet(tool, table.fixture())


class HeadTrial(Trial):
    """A head before the judge."""

    def __init__(self, job, machine, at):
        Trial.__init__(self, job_of_head(job, machine))
        self.why_not(("setup", job[5][at][0]))
        # What its tools take up in a part, as a list of solids.
        self.taken_up = []

    def why_not_part(self, blocks):
        """Lets the blocks of a part by; why not, None if they are done."""
        self.taken_up = [moved(whole_tool(self), self.standing)]
        for block in blocks:
            lot = line_lot(self.standing, block[1], block[2]) if is_move(block) else cube_at(self.standing)
            why = self.why_not(block)
            if why is not None:
                return why
            if block[0] == "tool" and meets_anything(self):
                return "at home the tool meets the stock or the fixture"
            self.taken_up.append(swept(lot, whole_tool(self)))
        return None


def why_no_part(heads, rows):
    """Lets the blocks of two heads in a part by, each as if the other cut nothing; why not, None if they are done."""
    for head, blocks in zip(heads, rows):
        why = head.why_not_part(blocks)
        if why is not None:
            return why
    if do_meet(union_of(heads[0].taken_up), union_of(heads[1].taken_up)):
        return "heads"
    stock, stuff = meet(heads[0].stock, heads[1].stock), meet(heads[0].stuff, heads[1].stuff)
    for head in heads:
        head.stock, head.stuff = stock, stuff
    return None


def judge_two(job, machine, at, programs):
    """("good", stock), or ("bad", part, why) for the first part that isn't let by."""
    if not are_programs(programs):
        return "bad", 0, "form"
    heads = [HeadTrial(job, job[3], at), HeadTrial(job, machine, at)]
    parts = list(zip(parts_of(programs[0]), parts_of(programs[1])))
    for number, rows in enumerate(parts):
        why = why_no_part(heads, rows)
        if why is not None:
            return "bad", number, why
    if not all([head.standing == head.home for head in heads]):
        return "bad", len(parts), "not at home at the end"
    if not is_fine(job, heads[0].stock):
        return "bad", len(parts), "the stock is not as it is wished"
    return "good", heads[0].stock


class Head(Motor):
    """A head of the machine, with its program."""

    def __init__(self, job, machine, at, program):
        Motor.__init__(self, job_of_head(job, machine))
        self.take(("setup", job[5][at][0]))
        self.program = program
        # The number of the block that it is at, and how many meetings it has come to.
        self.at = 0
        self.met = 0

    def can_go(self, other):
        """Whether it can do anything: it is not done, and the other head has come to all meetings that it has."""
        return self.at < len(self.program) and self.met <= other.met

    def go(self, other, most):
        """Does its block, of a move so many steps at most unless this is None; or raises Alarm."""
        block = self.program[self.at]
        if block[0] == "meet":
            self.met += 1
            self.at += 1
        elif is_move(block):
            self.go_along(other, block, most)
        else:
            self.do(block)
            if meets_anything(self) or self.meets(other):
                raise Alarm("at home the tool meets something")
            self.at += 1

    def meets(self, other):
        """Whether the tools of the two heads meet where they stand."""
        return do_meet(moved(whole_tool(self), self.standing), moved(whole_tool(other), other.standing))

    def go_along(self, other, block, most):
        """Goes along an axis as a move tells, so many steps at most unless this is None."""
        word, axis, to = block
        at = self.standing[axis]
        end = to if most is None else max(min(to, at + most), at - most)
        # Where the tools meet the step is done all the same: what the cutter met on it is gone.
        met = first_met(self.standing, axis, end, whole_tool(self), moved(whole_tool(other), other.standing))
        self.do((word, axis, end if met is None else met))
        if met is not None:
            raise Alarm("the tools of the two heads meet")
        if end == to:
            self.at += 1


def turn_of(heads, first):
    """The number of the head that goes on, the first one told if it can; None if neither can."""
    for number in (first, 1 - first):
        if heads[number].can_go(heads[1 - number]):
            return number
    return None


def go_on(heads, number, most):
    """Lets a head go on, and the other one know what is left; why it cannot, None if it is done."""
    head, other = heads[number], heads[1 - number]
    why = None
    try:
        head.go(other, most)
    except Alarm as alarm:
        why = alarm.why
    other.stock, other.stuff = head.stock, head.stuff
    return why


def run_two(job, machine, at, programs, turns):
    """(("done",) or ("alarm", head, why), the stock left) of two heads, step by step as turns tell, and behind them."""
    heads = [Head(job, job[3], at, programs[0]), Head(job, machine, at, programs[1])]
    done = 0
    while True:
        is_told = done < len(turns)
        number = turn_of(heads, turns[done] if is_told else 0)
        if number is None:
            return ("done",), heads[0].stock
        # Behind the turns a head goes on till its block ends: till then the other one comes to no meeting.
        why = go_on(heads, number, 1 if is_told else None)
        if why is not None:
            return ("alarm", number, why), heads[0].stock
        done += 1


def with_meets(job, machine, at, programs):
    """Two programs without meetings, if they are good; else one after the other, if so they are; else None."""
    if judge_two(job, machine, at, programs)[0] == "good":
        return programs
    if not are_programs(programs):
        return None
    first, second = programs
    made = ((*first, ("meet", 1)), (("meet", 1), *second))
    return made if judge_two(job, machine, at, made)[0] == "good" else None
