"""Tools that wear: how long one cuts till it is changed for another one of its name."""

from shopwhole.blocks import is_move
from shopwhole.errors import BadThing
from shopwhole.plain import with_number
from shopwhole.timeline import Clock


def lives_hold(job, program, lives):
    """Whether no tool cuts more ticks than its life from a block of a tool on, till the next one."""
    clock, worn = Clock(job), 0
    for block in program:
        if block[0] == "tool":
            worn = 0
        elif block[0] == "cut":
            worn += clock.ticks_for(block)
            life = lives[clock.tool]
            if life is not None and worn > life:
                return False
        clock.pass_block(block)
    return True


class Changer:
    """A good program that is written anew, with tools changed ahead of the end of their lives."""

    def __init__(self, job, lives):
        self.job = job
        self.lives = lives
        self.clock = Clock(job)
        self.worn = 0
        self.blocks = []
        # The way from home, for each move (axis, the number where it began), all free of stock by now.
        self.way = []

    def write(self, block):
        """Writes a block behind the others."""
        start = self.clock.standing
        if block[0] == "tool":
            self.worn = 0
        elif block[0] == "cut":
            self.worn += self.clock.ticks_for(block)
        self.blocks.append(block)
        self.clock.pass_block(block)
        if is_move(block):
            self.keep_way(block[1], start[block[1]])

    def keep_way(self, axis, begun):
        """Keeps the way of a move along an axis, begun at a number."""
        # Along one axis the way from where the first move began to where the last one ends is within both.
        if not self.way or self.way[-1][0] != axis:
            self.way.append((axis, begun))
        if self.way[-1][1] == self.clock.standing[axis]:
            self.way.pop()
        if self.clock.standing == self.job[3][2]:
            self.way = []

    def change(self):
        """Writes the way home, the tool, which is another one of its name now, and the way back to here."""
        at, there = self.clock.standing, []
        home_way = list(reversed(self.way))
        for axis, begun in home_way:
            there.append(("rapid", axis, at[axis]))
            at = with_number(at, axis, begun)
        for axis, begun in home_way:
            self.write(("rapid", axis, begun))
        self.write(("tool", self.job[4][self.clock.tool][0]))
        for block in reversed(there):
            self.write(block)

    def write_cut(self, block):
        """Writes a cut, in parts if the tool's life ends within it."""
        word, axis, to = block
        rate, life = self.clock.ticks_a_unit(word), self.lives[self.clock.tool]
        while life is not None and self.worn + self.clock.ticks_for(block) > life:
            units = (life - self.worn) // rate
            if units > 0:
                at = self.clock.standing[axis]
                self.write((word, axis, at + units if to > at else at - units))
            self.change()
        self.write(block)


def with_changes(job, program, lives):
    """A good program that leaves what a good one leaves, for which lives hold; BadThing if a life is too short."""
    if all([life is None for life in lives]):
        return program
    for tool, life in zip(job[4], lives):
        if life is not None and life < tool[3]:
            raise BadThing(lives)
    changer = Changer(job, lives)
    for block in program:
        if block[0] == "cut":
            changer.write_cut(block)
        else:
            changer.write(block)
    return tuple(changer.blocks)
