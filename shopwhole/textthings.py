"""The things that a job's text tells: stock, part, allowance, machine, tools and setups."""

from shopwhole.jobchecks import MOST_TICKS
from shopwhole.textpieces import wrong_at
from shopwhole.textshapes import MOST_TURN, read_group
from shopwhole.textsums import read_count, read_length, read_point


def read_stuff(reader):
    """The solid of the stock, or the part, that comes next."""
    return read_group(reader)


def read_ticks(reader, word):
    """The ticks behind a word."""
    reader.take(word)
    return read_count(reader, 0, MOST_TICKS)


def read_allowance(reader):
    """The allowance that comes next."""
    place = reader.place()
    length = read_length(reader)
    if length < 0:
        wrong_at(place)
    return length


def read_machine(reader):
    """The machine that comes next."""
    reader.take("from")
    low = read_point(reader)
    reader.take("to")
    high = read_point(reader)
    reader.take("home")
    home = read_point(reader)
    rapid = read_ticks(reader, "rapid")
    change = read_ticks(reader, "change")
    return (low, high, home, rapid, change, read_ticks(reader, "clamp"))


def read_perhaps(reader, word):
    """The group behind a word, () if the word does not come next."""
    if not reader.sees(word):
        return ()
    reader.step()
    return read_group(reader)


def read_tool(reader):
    """The tool that comes next."""
    name = reader.new_name()
    rate = read_ticks(reader, "rate")
    reader.take("cutter")
    cutter = read_group(reader)
    return (name, cutter, read_perhaps(reader, "holder"), rate)


def read_setup(reader):
    """The setup that comes next."""
    name = reader.new_name()
    reader.take("turn")
    turn = read_count(reader, 0, MOST_TURN)
    reader.take("at")
    by = read_point(reader)
    return (name, turn, by, read_perhaps(reader, "fixture"))


ONCE = {"stock": read_stuff, "part": read_stuff, "allowance": read_allowance, "machine": read_machine}
OFTEN = {"tool": read_tool, "setup": read_setup}


def read_thing(reader, told):
    """Keeps, by its first word, the thing that comes next."""
    word = reader.what()
    if word not in OFTEN and (word not in ONCE or word in told):
        wrong_at(reader.place())
    reader.step()
    if word in OFTEN:
        read = OFTEN[word]
        told[word].append(read(reader))
    else:
        read = ONCE[word]
        told[word] = read(reader)


def job_of(told, place):
    """The job of the things told; the end of the text is wrong if one lacks."""
    for word in ("stock", "part", "machine"):
        if word not in told:
            wrong_at(place)
    allowance = told.get("allowance", 0)
    return (told["stock"], told["part"], allowance, told["machine"], tuple(told["tool"]), tuple(told["setup"]))
