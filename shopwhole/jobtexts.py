"""Solids and jobs as texts."""

from shopwhole.jobs import check_job
from shopwhole.lengths import length_text
from shopwhole.solids import boxes_of
from shopwhole.textpieces import Reader
from shopwhole.textshapes import is_telling, read_group, read_telling
from shopwhole.textthings import job_of, read_thing


def read_solid(text):
    """The solid of a text of lines that tell numbers and shapes, and then one group; or raises BadText."""
    reader = Reader(text)
    reader.skip_ends()
    while is_telling(reader):
        read_telling(reader)
        reader.end_line()
        reader.skip_ends()
    solid = read_group(reader)
    while reader.kind() != "stop":
        reader.take("\n")
    return solid


def point_text(point):
    """A point of a text."""
    return ",".join([length_text(number) for number in point])


def solid_text(solid):
    """A text that read_solid reads as a solid."""
    lines = [f"  box {point_text(low)} to {point_text(high)}" for low, high in boxes_of(solid)]
    return "\n".join(["{", *lines, "}"])


def machine_text(machine):
    """The line of a machine."""
    low, high, home, rapid, change, clamp = machine
    travel = f"machine from {point_text(low)} to {point_text(high)} home {point_text(home)}"
    return f"{travel} rapid {rapid} change {change} clamp {clamp}"


def tool_text(tool):
    """The lines of a tool."""
    name, cutter, holder, rate = tool
    return f"tool {name} rate {rate} cutter {solid_text(cutter)} holder {solid_text(holder)}"


def setup_text(setup):
    """The lines of a setup."""
    name, turn, by, fixture = setup
    return f"setup {name} turn {turn} at {point_text(by)} fixture {solid_text(fixture)}"


def job_text(job):
    """A text that read_job reads as a job."""
    stock, wished, allowance, machine, tools, setups = job
    things = [f"stock {solid_text(stock)}", f"part {solid_text(wished)}", f"allowance {length_text(allowance)}"]
    things.append(machine_text(machine))
    things.extend([tool_text(tool) for tool in tools])
    things.extend([setup_text(setup) for setup in setups])
    return "\n".join(things) + "\n"


def read_job(text):
    """The job of a text; or raises BadText, or BadJob if what the text tells is none."""
    reader = Reader(text)
    told = {"tool": [], "setup": []}
    reader.skip_ends()
    while reader.kind() != "stop":
        if is_telling(reader):
            read_telling(reader)
        else:
            read_thing(reader, told)
        reader.end_line()
        reader.skip_ends()
    job = job_of(told, reader.place())
    check_job(job)
    return job
