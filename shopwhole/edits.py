"""Jobs that are planned again once they are changed: what was planned is kept in a book."""

from shopwhole.plans import Planner, program_by


class Book:
    """Keeps what was planned for tools in setups, whatever the jobs."""

    def __init__(self):
        self.asked = 0
        self.used = 0
        self.answers = {}
        self.rounds = {}

    def knows(self, key):
        """Whether there is an answer; that it was asked for is counted."""
        self.asked += 1
        if key not in self.answers:
            return False
        self.used += 1
        return True


def key_for(job, setup, tool, rest):
    """All on which the answers for a tool in a setup hang; names, ticks and other tools and setups don't count."""
    low, high, home = job[3][:3]
    _, turn, by, fixture = job[5][setup]
    _, cutter, holder, _ = job[4][tool]
    return (low, high, home, job[1], turn, by, fixture, cutter, holder, rest)


class Recaller(Planner):
    """A planner that asks a book first."""

    def __init__(self, job, book):
        Planner.__init__(self, job)
        self.book = book

    def answer(self, setup, tool, rest):
        """The lot that a tool in a setup comes to, and what it leaves there, from the book if it knows them."""
        key = key_for(self.job, setup, tool, rest)
        if not self.book.knows(key):
            self.book.answers[key] = super().answer(setup, tool, rest)
        return self.book.answers[key]

    def blocks_for(self, setup, tool, lot, rest):
        """The blocks of a round, from the book if it has them."""
        key = key_for(self.job, setup, tool, rest)
        if key not in self.book.rounds:
            self.book.rounds[key] = super().blocks_for(setup, tool, lot, rest)
        return self.book.rounds[key]


def program_again(job, book):
    """Just what program_for returns, by what a book keeps of what was planned ahead."""
    return program_by(job, Recaller(job, book))
