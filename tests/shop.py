"""Jobs for the tests."""

from shopwhole.solids import box, less

STOCK = box((0, 0, 0), (4, 3, 2))
WISHED = less(STOCK, box((1, 1, 1), (3, 2, 2)))
MACHINE = ((-2, -2, 0), (6, 6, 6), (0, 0, 4), 1, 5, 20)
MILL = ("mill", box((0, 0, 0), (1, 1, 1)), box((0, 0, 1), (1, 1, 3)), 2)
FLAT = ("flat", 0, (0, 0, 0), ())
JOB = (STOCK, WISHED, 0, MACHINE, (MILL,), (FLAT,))

POCKET = """stock { box 0,0,0 to 40,30,20 }
part {
  box 0,0,0 to 40,30,20
  cut box 10,10,12 to 30,20,20
}
machine from -20,-20,0 to 80,80,60 home 0,0,40 rapid 1 change 50 clamp 200
tool mill rate 4 cutter { box 0,0,0 to 5,5,10 } holder { box -5,-5,10 to 10,10,30 }
setup flat turn 0 at 0,0,0
"""


def changed(thing, place, other):
    """The tuple with another thing at a place."""
    return (*thing[:place], other, *thing[place + 1:])


def job_with_tool(tool):
    return changed(JOB, 4, (tool,))


def job_with_setup(setup):
    return changed(JOB, 5, (setup,))


# The program of the document's examples: a slot two units long.
DOWN = (("setup", "flat"), ("tool", "mill"), ("rapid", 0, 1), ("rapid", 1, 1), ("rapid", 2, 2))
PROGRAM = (*DOWN, ("cut", 2, 1), ("cut", 0, 2), ("rapid", 2, 4), ("rapid", 0, 0), ("rapid", 1, 0))

# A cave in the middle, to which no tool comes, and one that is open but too narrow.
CAVE = changed(JOB, 1, less(box((0, 0, 0), (4, 3, 2)), box((1, 1, 0), (3, 2, 1))))
NARROW = changed(JOB, 4, (("wide", box((0, 0, 0), (2, 2, 1)), (), 1),))
