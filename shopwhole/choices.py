"""The fewest setups, or tools, with which a job can be made, and papers that fewer do not do."""

from itertools import combinations

from shopwhole.closure import can_be_made, closure, shows_never
from shopwhole.jobs import is_fine
from shopwhole.plain import is_count, is_tuple_of

TOOLS = 4
SETUPS = 5


def job_with(job, kind, choice):
    """The job with some tools (kind 4), or setups (5), alone."""
    return (*job[:kind], tuple([job[kind][number] for number in choice]), *job[kind + 1:])


def choices_of(job, kind, many):
    """The list of all choices of so many tools, or setups, ascending."""
    return list(combinations(range(len(job[kind])), many))


def least_choice(job, kind):
    """(choice, papers): the first of the fewest tools, or setups, that do, and papers for all of one fewer, or None."""
    papers = ()
    for many in range(1, len(job[kind]) + 1):
        found = []
        for choice in choices_of(job, kind, many):
            part = job_with(job, kind, choice)
            paper = closure(part)
            if is_fine(part, paper[0]):
                return choice, papers
            found.append((choice, paper))
        papers = tuple(found)
    return None


def setups_needed(job):
    """(choice, papers) for the fewest setups with which, and all tools, a job can be made; None if it cannot."""
    return least_choice(job, SETUPS)


def tools_needed(job):
    """(choice, papers) for the fewest tools with which, and all setups, a job can be made; None if it cannot."""
    return least_choice(job, TOOLS)


def is_choice(job, kind, thing):
    """Whether a thing is a choice of tools, or setups, of a job."""
    if not isinstance(thing, tuple) or not thing:
        return False
    if not all([is_count(number, 0, len(job[kind]) - 1) for number in thing]):
        return False
    return list(thing) == sorted(set(thing))


def are_papers(job, kind, choice, papers):
    """Whether a job can be made with a choice, and papers show that it cannot with any of one fewer."""
    if not is_choice(job, kind, choice) or not can_be_made(job_with(job, kind, choice)):
        return False
    others = choices_of(job, kind, len(choice) - 1) if len(choice) > 1 else []
    if not is_tuple_of(papers, len(others)):
        return False
    for other, pair in zip(others, papers):
        if not is_tuple_of(pair, 2) or not is_choice(job, kind, pair[0]) or pair[0] != other:
            return False
        if not shows_never(job_with(job, kind, other), pair[1]):
            return False
    return True
