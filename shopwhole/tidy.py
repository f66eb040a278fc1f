"""Good programs made tidy: nothing in them that is there for nothing."""

from shopwhole.blocks import is_move
from shopwhole.judge import Trial, is_good, is_program, judge
from shopwhole.lots import line_lot
from shopwhole.solids import do_meet, swept


class Tidier(Trial):
    """A good program that is written anew, block by block."""

    def __init__(self, job):
        Trial.__init__(self, job)
        self.blocks = []
        # What was so ahead of each block that is written.
        self.states = []

    def state(self):
        """What a move changes."""
        return self.stock, self.stuff, self.standing

    def go_back(self, state):
        """Makes all as it was in a state."""
        self.stock, self.stuff, self.standing = state

    def is_idle(self, block):
        """Whether a block changes nothing, and takes no ticks but for a setup."""
        if block[0] == "rest":
            return block[1] == 0
        if block[0] == "setup":
            return self.setup is not None and self.job[5][self.setup][0] == block[1]
        return is_move(block) and block[2] == self.standing[block[1]]

    def as_quick(self, block):
        """A block, or the rapid move in the place of a cut that cuts nothing, if this takes no more ticks."""
        if block[0] != "cut" or self.job[3][3] > self.job[4][self.tool][3]:
            return block
        _, axis, to = block
        if do_meet(self.stuff, swept(line_lot(self.standing, axis, to), self.cutter())):
            return block
        return ("rapid", axis, to)

    def does_for_last(self, block):
        """Whether a block does as much in the place of the last one that is written as behind it."""
        if not self.blocks or not is_move(block) or self.blocks[-1][:2] != block[:2]:
            return False
        ahead, now = self.states[-1], self.state()
        kind, axis, to = block
        begin, end = ahead[2][axis], now[2][axis]
        if kind == "cut" and (begin < end) != (end < to):
            return False
        self.why_not(block)
        behind = self.stock
        self.go_back(ahead)
        does = self.why_not(block) is None and self.stock == behind
        self.go_back(now)
        return does

    def write(self, block):
        """Writes a block behind the others, in the place of the last one if it does for it."""
        block = self.as_quick(block)
        while not self.is_idle(block) and self.does_for_last(block):
            self.blocks.pop()
            self.go_back(self.states.pop())
        if not self.is_idle(block):
            self.states.append(self.state())
            self.blocks.append(block)
            self.why_not(block)


def tidied_once(job, program):
    """A good program, each block looked at once."""
    tidier = Tidier(job)
    for block in program:
        tidier.write(block)
    return tuple(tidier.blocks)


def tidied(job, program):
    """A good program that does the same, with nothing in it for nothing; one that is not good as it is."""
    if not is_good(job, program):
        return program
    told = tidied_once(job, program)
    while told != program:
        told, program = tidied_once(job, told), told
    return told


def do_same(job, one, other):
    """Whether two programs are good, and leave the same."""
    told, wanted = judge(job, one), judge(job, other)
    return told[0] == "good" and wanted[0] == "good" and told[1] == wanted[1]


def first_alarm(job, program):
    """The number of the first block that the judge doesn't let by, None if it is the end alone, or nothing."""
    told = judge(job, program)
    if told[0] == "good" or (is_program(program) and told[1] == len(program)):
        return None
    return told[1]
