"""A machine's table: the stock on it, the setup and the tool that are taken, and where the tool stands."""

from shopwhole.blocks import number_of
from shopwhole.jobs import placed, taken_back
from shopwhole.solids import less, meet, swept


class Worktable:
    """What judge, motor and planner keep alike while blocks are done."""

    def __init__(self, job):
        self.job = job
        self.home = job[3][2]
        self.stock = job[0]
        self.setup = None
        self.tool = None
        self.standing = self.home
        # The stock as it stands in the setup: turned anew at each move it would cost more than all else.
        self.stuff = ()

    def is_ready(self):
        """Whether a setup and a tool are taken, as a move needs both."""
        return self.setup is not None and self.tool is not None

    def cutter(self):
        """The cutter of the tool taken."""
        return self.job[4][self.tool][1]

    def holder(self):
        """The holder of the tool taken."""
        return self.job[4][self.tool][2]

    def fixture(self):
        """The fixture of the setup taken."""
        return self.job[5][self.setup][3]

    def take(self, block):
        """Takes the setup or tool of a block; why it cannot, None if it is done."""
        is_setup = block[0] == "setup"
        number = number_of(self.job[5] if is_setup else self.job[4], block[1])
        if number is None:
            return "there is none of this name"
        if self.standing != self.home:
            return "not at home"
        if is_setup:
            self.setup = number
            self.stuff = placed(self.job[5][number], self.stock)
        else:
            self.tool = number
        return None

    def cut(self, lot):
        """Takes off the stock what the cutter takes up at the standings of a lot."""
        taken = meet(self.stuff, swept(lot, self.cutter()))
        if taken != ():
            self.stuff = less(self.stuff, taken)
            self.stock = less(self.stock, taken_back(self.job[5][self.setup], taken))
