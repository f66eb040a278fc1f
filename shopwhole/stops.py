"""The machine whose power may fail at any step, and which begins again."""

from shopwhole.blocks import is_move
from shopwhole.errors import Alarm
from shopwhole.motor import Motor
from shopwhole.plain import with_number


class Stopped(Motor):
    """The machine with what it keeps without power: a journal, and the way that it came."""

    def __init__(self, job):
        Motor.__init__(self, job)
        self.journal = []
        # For each move since home, (axis, the number where it began).
        self.way = []

    def do(self, block):
        """Does a block, as a Motor, and keeps the way that it came."""
        self.do_kept(block)
        self.end_block()

    def do_kept(self, block):
        """Does a block, or some of one, and keeps the way, as far as it went."""
        start = self.standing
        try:
            super().do(block)
        except Alarm:
            self.keep_way(start, block)
            raise
        self.keep_way(start, block)

    def keep_way(self, start, block):
        """Keeps the way from a standing on that a block went."""
        if self.standing != start:
            self.way.append((block[1], start[block[1]]))

    def end_block(self):
        """Forgets the way at the end of a block at home."""
        if self.standing == self.home:
            self.way = []

    def reach(self, axis, to, limit):
        """The number along an axis, towards another one, to which there is power, limit being the last step."""
        at = self.standing[axis]
        if limit is None:
            return to
        power = limit - self.steps
        return min(to, at + power) if to >= at else max(to, at - power)

    def go_home(self, limit):
        """Goes home the way that it came; whether it comes there."""
        while self.way:
            axis, to = self.way[-1]
            number = self.reach(axis, to, limit)
            super().do(("rapid", axis, number))
            if number != to:
                return False
            self.way.pop()
        return True

    def next_block(self):
        """The number of the block behind the last whole mark, 0 without one."""
        whole = [mark for mark in self.journal if mark is not None]
        return whole[-1] + 1 if whole else 0

    def take_again(self, blocks):
        """Takes the setup and the tool that are told last in blocks."""
        for word in ("setup", "tool"):
            told = [block for block in blocks if block[0] == word]
            if told:
                super().do(told[-1])

    def is_done(self, block, limit):
        """Does a block as far as there is power; whether to its end."""
        if not is_move(block):
            self.do_kept(block)
            return True
        word, axis, to = block
        number = self.reach(axis, to, limit)
        self.do_kept((word, axis, number))
        return number == to

    def is_marked(self, number, limit, is_torn):
        """Writes a mark; whether it is whole."""
        if is_torn and self.steps == limit:
            self.journal.append(None)
            return False
        self.journal.append(number)
        return True

    def start(self, program, stop):
        """Begins again, and goes on till all is done, or there is no power; whether all is done."""
        limit = None if stop is None else self.steps + stop[0]
        is_torn = stop is not None and stop[1]
        if not self.go_home(limit):
            return False
        first = self.next_block()
        self.take_again(program[:first])
        for number in range(first, len(program)):
            if not self.is_done(program[number], limit):
                return False
            self.end_block()
            if self.standing == self.home and not self.is_marked(number, limit, is_torn):
                return False
        return True


def run_history(job, program, history):
    """(("done", starts) or ("alarm", starts, why), stock, steps) of starts with all stops, and then without one."""
    machine = Stopped(job)
    stops = (*history, None)
    starts, is_done = 0, False
    while not is_done:
        starts += 1
        try:
            is_done = machine.start(program, stops[starts - 1])
        except Alarm as alarm:
            return ("alarm", starts, alarm.why), machine.stock, machine.steps
    return ("done", starts), machine.stock, machine.steps


def steps_in(job, program):
    """The units of all moves of a program."""
    at, total = job[3][2], 0
    for block in program:
        if is_move(block):
            total += abs(block[2] - at[block[1]])
            at = with_number(at, block[1], block[2])
    return total


def most_steps(job, program, history):
    """How many steps a good program takes at most, whatever a history of stops."""
    return sum([stop[0] for stop in history]) + 2 * steps_in(job, program)
