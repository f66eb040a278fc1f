"""Jobs: what is there, what is wished, and what there is to make it with."""

from shopwhole.errors import BadJob
from shopwhole.jobchecks import (
    FARTHEST, check_machine, check_many, check_names, check_setup, check_solid, check_tool,
)
from shopwhole.plain import is_count, is_tuple_of, times
from shopwhole.solids import do_meet, is_within, moved, spread, union
from shopwhole.turns import back, turned


def placed(setup, solid):
    """A solid of the part's space as it stands in a setup."""
    return moved(turned(solid, setup[1]), setup[2])


def taken_back(setup, solid):
    """The solid of the part's space that stands so in a setup."""
    return turned(moved(solid, times(setup[2], -1)), back(setup[1]))


def check_home(home, tools, setup, stock):
    """Raises BadJob if the fixture of a setup meets the stock, or a tool at home one of both."""
    stuff = placed(setup, stock)
    if do_meet(setup[3], stuff):
        raise BadJob(setup[0], "the fixture meets the stock")
    stuff = union(stuff, setup[3])
    for tool in tools:
        if do_meet(moved(tool[1], home), stuff) or do_meet(moved(tool[2], home), stuff):
            raise BadJob(tool[0], "at home it meets the stock or the fixture")


def check_job(job):
    """Raises BadJob unless a thing is a job."""
    if not is_tuple_of(job, 6):
        raise BadJob("job", "not six things")
    stock, wished, allowance, machine, tools, setups = job
    check_solid("stock", stock)
    check_solid("part", wished)
    if wished == ():
        raise BadJob("part", "nothing is wished")
    if not is_within(wished, stock):
        raise BadJob("part", "not within the stock")
    if not is_count(allowance, 0, FARTHEST):
        raise BadJob("allowance", "no length from 0 on")
    check_machine(machine)
    check_many("tools", tools, check_tool)
    check_many("setups", setups, check_setup)
    check_names(tools, setups)
    for setup in setups:
        check_home(machine[2], tools, setup, stock)


def is_job(thing):
    """Whether a thing is a job."""
    try:
        check_job(thing)
    except BadJob:
        return False
    return True


def is_fine(job, solid):
    """Whether a solid has all that is wished, and no more round it than allowed."""
    return is_within(job[1], solid) and is_within(solid, spread(job[1], job[2]))
