"""When each block of a program begins and ends, and where the tool stands at a tick."""

from shopwhole.blocks import is_move, number_of
from shopwhole.plain import with_number


class Clock:
    """Goes through a program and counts ticks, whatever is in the way."""

    def __init__(self, job):
        self.job = job
        # Ahead of any tool the first one counts.
        self.tool = 0
        self.standing = job[3][2]

    def ticks_a_unit(self, word):
        """The ticks for a unit of a move."""
        return self.job[4][self.tool][3] if word == "cut" else self.job[3][3]

    def ticks_for(self, block):
        """How many ticks a block takes that comes next."""
        if is_move(block):
            word, axis, to = block
            return abs(to - self.standing[axis]) * self.ticks_a_unit(word)
        if block[0] == "rest":
            return block[1]
        return self.job[3][5] if block[0] == "setup" else self.job[3][4]

    def pass_block(self, block):
        """Goes behind the block that comes next."""
        if is_move(block):
            self.standing = with_number(self.standing, block[1], block[2])
        elif block[0] == "tool":
            number = number_of(self.job[4], block[1])
            if number is not None:
                self.tool = number

    def standing_within(self, block, ticks):
        """Where the tool stands so many ticks, not all of them, after the beginning of the block that comes next."""
        if not is_move(block):
            return self.standing
        word, axis, to = block
        at, units = self.standing[axis], ticks // self.ticks_a_unit(word)
        return with_number(self.standing, axis, at + units if to > at else at - units)


def times_of(job, program):
    """The list of (begin, end) of all blocks of a program, in ticks."""
    clock, out, at = Clock(job), [], 0
    for block in program:
        end = at + clock.ticks_for(block)
        out.append((at, end))
        clock.pass_block(block)
        at = end
    return out


def length_of_time(job, program):
    """How many ticks a program takes."""
    times = times_of(job, program)
    return times[-1][1] if times else 0


def where_at(job, program, tick):
    """(number, standing): the first block that ends behind a tick, and where the tool stands then."""
    clock = Clock(job)
    for number, (begin, end) in enumerate(times_of(job, program)):
        if end > tick:
            return number, clock.standing_within(program[number], tick - begin)
        clock.pass_block(program[number])
    return len(program), clock.standing


def wear_of(job, program):
    """The tuple of the ticks that each tool cuts."""
    clock, out = Clock(job), [0 for _ in job[4]]
    for block in program:
        if block[0] == "cut":
            out[clock.tool] += clock.ticks_for(block)
        clock.pass_block(block)
    return tuple(out)
