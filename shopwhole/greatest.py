"""The widest cutter, and the least stock, with which a job can be made, and papers that none is better."""

from shopwhole.closure import can_be_made, closure, shows_never
from shopwhole.jobs import is_fine, is_job
from shopwhole.plain import is_count, is_integer, is_tuple_of
from shopwhole.solids import box, volume


def with_cutter(job, at, wide, deep):
    """The job with a square cutter, so wide and deep, and no holder for the tool of a number."""
    name, _, _, rate = job[4][at]
    tool = (name, box((0, 0, 0), (wide, wide, deep)), (), rate)
    return (*job[:4], (*job[4][:at], tool, *job[4][at + 1:]), job[5])


def with_stock(job, stock):
    """The job with another stock."""
    return (stock, *job[1:])


def first_made(choices):
    """(what, papers): the first of some (what, job) whose job can be made, or None, and papers for those ahead."""
    papers = []
    for what, job in choices:
        if is_job(job):
            paper = closure(job)
            if is_fine(job, paper[0]):
                return what, tuple(papers)
            papers.append((what, paper))
    return None, tuple(papers)


def greatest_cutter(job, at, deep, most):
    """(wide, papers): the greatest width with which a job can be made, 0 without one, and papers for greater ones."""
    wide, papers = first_made([(width, with_cutter(job, at, width, deep)) for width in range(most, 0, -1)])
    return 0 if wide is None else wide, papers


def is_paper_of(wide, job, thing):
    """Whether a thing is (wide, paper), the paper showing that a job cannot be made."""
    return is_tuple_of(thing, 2) and is_integer(thing[0]) and thing[0] == wide and shows_never(job, thing[1])


def is_greatest(job, at, deep, most, told):
    """Whether a thing is a width with which a job can be made, or 0, and papers that it cannot with greater ones."""
    if not is_tuple_of(told, 2) or not is_count(told[0], 0, most):
        return False
    wide, papers = told
    if wide > 0:
        made = with_cutter(job, at, wide, deep)
        if not is_job(made) or not can_be_made(made):
            return False
    greater = [(width, with_cutter(job, at, width, deep)) for width in range(most, wide, -1)]
    jobs = [pair for pair in greater if is_job(pair[1])]
    if not is_tuple_of(papers, len(jobs)):
        return False
    return all([is_paper_of(*pair, paper) for pair, paper in zip(jobs, papers)])


def least_stock(job, stocks):
    """(number, papers) for the first stock, by volume, with which a job can be made, and those ahead; None without."""
    order = sorted([(volume(stock), place) for place, stock in enumerate(stocks)])
    number, papers = first_made([(place, with_stock(job, stocks[place])) for _, place in order])
    return None if number is None else (number, papers)
