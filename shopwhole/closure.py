"""All that can be cut at all, and papers that show that nothing else can."""

from shopwhole.jobs import is_fine, placed, taken_back
from shopwhole.lots import travel_lot
from shopwhole.plain import is_tuple_of
from shopwhole.solids import (
    barred, do_meet, has, is_solid, is_within, less, meet, neighbours, piece_with, spread, swept, union,
)


def cutter_lot(job, setup, tool):
    """The standings of the travel at which a tool's cutter meets neither the wished solid nor the fixture."""
    return less(travel_lot(job[3]), barred(tool[1], union(placed(setup, job[1]), setup[3])))


def holder_lot(lot, setup, tool, stuff):
    """The standings of a lot at which a tool's holder meets neither stuff, as it is placed, nor the fixture."""
    return less(lot, barred(tool[2], union(stuff, setup[3])))


def free_lot(job, setup, tool, rest):
    """The standings of the travel at which a tool in a setup may be, if so much is left."""
    return holder_lot(cutter_lot(job, setup, tool), setup, tool, placed(setup, rest))


class Pairing:
    """A tool in a setup, with what doesn't change while the stock gets less."""

    def __init__(self, job, setup, tool):
        self.setup = setup
        self.tool = tool
        self.home = job[3][2]
        self.lot = cutter_lot(job, setup, tool)

    def come_to(self, rest):
        """The standings that can be come to from home, if so much is left."""
        stuff = placed(self.setup, rest)
        return piece_with(holder_lot(self.lot, self.setup, self.tool, stuff), self.home)

    def left_of(self, rest, lot):
        """What the cutter leaves of a rest at all standings of a lot."""
        stuff = placed(self.setup, rest)
        cut = swept(lot, self.tool[1])
        # Turned back only if something is cut: mostly nothing is.
        return taken_back(self.setup, less(stuff, cut)) if do_meet(stuff, cut) else rest


class Pairings:
    """What each tool in each setup comes to and leaves, worked out when it is asked for."""

    def __init__(self, job):
        self.job = job
        self.pairings = {}

    def pairing(self, setup, tool):
        """What doesn't change of a tool in a setup, told by their numbers."""
        if (setup, tool) not in self.pairings:
            self.pairings[(setup, tool)] = Pairing(self.job, self.job[5][setup], self.job[4][tool])
        return self.pairings[(setup, tool)]

    def answer(self, setup, tool, rest):
        """The lot that a tool in a setup comes to, if so much is left, and what it leaves of it there."""
        pairing = self.pairing(setup, tool)
        lot = pairing.come_to(rest)
        return lot, pairing.left_of(rest, lot)


def rounds_by(job, pairings):
    """The closure's paper, and the list of rounds: (setup, tool, lot, the rest ahead) of what cuts something for it."""
    rest, rounds = job[0], []
    while True:
        ahead = rest
        lots = []
        for setup in range(len(job[5])):
            found = []
            for tool in range(len(job[4])):
                lot, left = pairings.answer(setup, tool, rest)
                if left != rest:
                    rounds.append((setup, tool, lot, rest))
                rest = left
                found.append(lot)
            lots.append(tuple(found))
        if rest == ahead:
            return (rest, tuple(lots)), rounds


def rounds_of(job):
    """The closure's paper, and the list of rounds that cut something for it."""
    return rounds_by(job, Pairings(job))


def closure(job):
    """The least rest that any program can leave, and for each setup and tool all standings it can come to."""
    return rounds_of(job)[0]


def is_closed(job, setup, tool, rest, lot):
    """Whether a thing is a lot that a tool in a setup never leaves, and in which it cuts nothing of a rest."""
    if not is_solid(lot) or not has(lot, job[3][2]):
        return False
    free = free_lot(job, setup, tool, rest)
    if not is_within(lot, free) or not is_within(meet(neighbours(lot), free), lot):
        return False
    return not do_meet(swept(lot, tool[1]), placed(setup, rest))


def is_paper(job, paper):
    """Whether a thing is a paper of a job."""
    if not is_tuple_of(paper, 2):
        return False
    rest, lots = paper
    if not is_solid(rest) or not is_within(rest, job[0]) or not is_tuple_of(lots, len(job[5])):
        return False
    for setup, row in zip(job[5], lots):
        if not is_tuple_of(row, len(job[4])):
            return False
        if not all([is_closed(job, setup, tool, rest, lot) for tool, lot in zip(job[4], row)]):
            return False
    return True


def can_be_made(job):
    """Whether some program is good."""
    return is_fine(job, closure(job)[0])


def shows_never(job, paper):
    """Whether a thing is a paper, and shows that no program is good."""
    return is_paper(job, paper) and not is_within(paper[0], spread(job[1], job[2]))
