"""What is asked of each part of a job by itself."""

from shopwhole.errors import BadJob
from shopwhole.forms import count_of
from shopwhole.plain import is_count, is_point, is_tuple_of
from shopwhole.solids import bounds, do_meet, is_solid
from shopwhole.words import is_name

MOST_BOXES = 3000
FARTHEST = 999999999
MOST_TICKS = 999999
MOST_TOOLS = 8


def is_near(point):
    """Whether no number of a point is too far off."""
    return all([-FARTHEST <= number <= FARTHEST for number in point])


def is_far(solid):
    """Whether a solid lies too far off."""
    return solid != () and not all([is_near(corner) for corner in bounds(solid)])


def check_solid(name, thing):
    """Raises BadJob unless a thing is a solid in its form, neither too large nor of too many boxes."""
    if not is_solid(thing):
        raise BadJob(name, "no solid in its form")
    if count_of(thing) > MOST_BOXES:
        raise BadJob(name, "too many boxes")
    if is_far(thing):
        raise BadJob(name, "too far off")


def check_point(name, thing):
    """Raises BadJob unless a thing is three integers that are not too far off."""
    if not is_point(thing):
        raise BadJob(name, "not three integers")
    if not is_near(thing):
        raise BadJob(name, "too far off")


def check_ticks(name, thing):
    """Raises BadJob unless a thing is a number of ticks."""
    if not is_count(thing, 0, MOST_TICKS):
        raise BadJob(name, "no number of ticks")


def check_machine(thing):
    """Raises BadJob unless a thing is a machine."""
    if not is_tuple_of(thing, 6):
        raise BadJob("machine", "not six things")
    for point in thing[:3]:
        check_point("machine", point)
    low, high, home = thing[:3]
    for axis in range(3):
        if not low[axis] <= home[axis] <= high[axis]:
            raise BadJob("machine", "home is not in the travel")
    for ticks in thing[3:]:
        check_ticks("machine", ticks)


def check_tool(thing):
    """Raises BadJob unless a thing is a tool."""
    if not is_tuple_of(thing, 4):
        raise BadJob("tools", "a tool is not four things")
    name, cutter, holder, rate = thing
    if not is_name(name):
        raise BadJob("tools", "a tool's name is none")
    check_solid(name, cutter)
    check_solid(name, holder)
    check_ticks(name, rate)
    if cutter == ():
        raise BadJob(name, "the cutter is nothing")
    if do_meet(cutter, holder):
        raise BadJob(name, "the cutter meets the holder")


def check_setup(thing):
    """Raises BadJob unless a thing is a setup."""
    if not is_tuple_of(thing, 4):
        raise BadJob("setups", "a setup is not four things")
    name, turn, by, fixture = thing
    if not is_name(name):
        raise BadJob("setups", "a setup's name is none")
    if not is_count(turn, 0, 23):
        raise BadJob(name, "no turning")
    check_point(name, by)
    check_solid(name, fixture)


def check_many(name, thing, check):
    """Raises BadJob unless a thing is a tuple of one to eight things, each as a function checks it."""
    if not isinstance(thing, tuple) or not 1 <= len(thing) <= MOST_TOOLS:
        raise BadJob(name, "not a tuple of one to eight")
    for told in thing:
        check(told)


def check_names(tools, setups):
    """Raises BadJob if a name of tools and setups is told twice."""
    seen = {}
    for told in (*tools, *setups):
        if told[0] in seen:
            raise BadJob(told[0], "told twice")
        seen[told[0]] = True
