"""A program while it is written."""

from shopwhole.lots import line_lot
from shopwhole.plain import with_number
from shopwhole.solids import do_meet, swept
from shopwhole.ways import axes_between, way_in
from shopwhole.worktable import Worktable


class Tape(Worktable):
    """A program that is written block by block, each done as it is written."""

    def __init__(self, job):
        Worktable.__init__(self, job)
        self.blocks = []

    def write_take(self, word, name):
        """Writes that a setup or a tool is taken."""
        self.blocks.append((word, name))
        self.take((word, name))

    def change_to(self, setup, tool):
        """Writes that a setup and a tool are taken, told by their numbers, but for what is taken already."""
        if self.setup != setup:
            self.write_take("setup", self.job[5][setup][0])
        if self.tool != tool:
            self.write_take("tool", self.job[4][tool][0])

    def move_along(self, axis, to):
        """Writes a move: rapid if no stock is in the cutter's way."""
        lot = line_lot(self.standing, axis, to)
        is_cut = do_meet(swept(lot, self.cutter()), self.stuff)
        self.blocks.append(("cut" if is_cut else "rapid", axis, to))
        if is_cut:
            self.cut(lot)
        self.standing = with_number(self.standing, axis, to)

    def go_to(self, lot, standing):
        """Writes a least way within a lot to a standing."""
        way = way_in(lot, self.standing, standing)
        for one, other in zip(way, way[1:]):
            axis = axes_between(one, other)[0]
            self.move_along(axis, other[axis])

    def do_stroke(self, lot, begin, end):
        """Writes a least way to where a stroke is begun, and the stroke."""
        self.go_to(lot, begin)
        if begin != end:
            self.move_along(0, end[0])
