"""Drawn jobs, and what can be cut of them, standing by standing."""

import random

from cubes import cubes_of, cubes_of_box, flooded, minus, plus, random_point, random_solid
from shopwhole.jobs import is_job
from shopwhole.solids import box, less, union
from shopwhole.turns import turned_point


def cube_placed(setup, cube):
    one, other = turned_point(cube, setup[1]), turned_point(plus(cube, (1, 1, 1)), setup[1])
    return plus(tuple(min(pair) for pair in zip(one, other)), setup[2])


def own_free(job, setup, tool, rest):
    """The standings of the travel that are free, each looked at by itself."""
    low, high = job[3][:2]
    cutter, holder, fixture = cubes_of(tool[1]), cubes_of(tool[2]), cubes_of(setup[3])
    kept = {cube_placed(setup, cube) for cube in cubes_of(job[1])} | fixture
    stuff = {cube_placed(setup, cube) for cube in rest} | fixture
    met = {minus(one, cube) for one in kept for cube in cutter} | {minus(one, cube) for one in stuff for cube in holder}
    return cubes_of_box(low, plus(high, (1, 1, 1))) - met


def own_closure(job):
    """The least rest, going from standing to standing, till nothing more is cut."""
    rest = cubes_of(job[0])
    while True:
        ahead, lots = set(rest), []
        for setup in job[5]:
            row = []
            for tool in job[4]:
                reached = set(flooded(own_free(job, setup, tool, rest), job[3][2]))
                cutter = cubes_of(tool[1])
                met = {plus(cube, at) for cube in cutter for at in reached}
                rest = {cube for cube in rest if cube_placed(setup, cube) not in met}
                row.append(reached)
            lots.append(row)
        if rest == ahead:
            return rest, lots


def random_job(chance):
    """A small job, or a thing that is none."""
    stock = box((0, 0, 0), (4, 4, 3))
    if chance.random() < 0.4:
        stock = less(stock, random_solid(chance, 0, 4, 2)[0])
    wished = less(stock, random_solid(chance, -1, 5, 4)[0])
    machine = ((-2, -2, -1), (6, 6, 6), (chance.choice((-2, 0, 6)), 0, 6), 1, 1, 1)
    tools = []
    for name in ("a", "b")[:chance.randint(1, 2)]:
        wide, long = chance.randint(1, 2), chance.randint(1, 3)
        cutter = box((0, 0, 0), (wide, chance.randint(1, 2), long))
        if chance.random() < 0.3:
            cutter = union(cutter, box((-1, 0, 0), (1, 1, 1)))
        holder = chance.choice(((), box((-1, -1, long), (wide + 1, 2, long + 2)), box((0, 0, long), (1, 1, long + 3))))
        tools.append((name, cutter, holder, 1))
    setups = []
    for name in ("p", "q")[:chance.randint(1, 2)]:
        turn = chance.choice((0, 0, *range(24)))
        corner = tuple(min(pair) for pair in zip(turned_point((0, 0, 0), turn), turned_point((4, 4, 3), turn)))
        fixture = chance.choice(((), (), box((-1, 1, 0), (0, 3, 2)), box((0, 0, -1), (4, 4, 0))))
        setups.append((name, turn, minus((0, 0, 0), corner), fixture))
    return (stock, wished, chance.choice((0, 0, 1)), machine, tuple(tools), tuple(setups))


def wild_job(chance):
    """A small job of odd solids anywhere, or a thing that is none."""
    stock = random_solid(chance, 0, 4, 6)[0]
    wished = less(stock, random_solid(chance, 0, 4, 6)[0])
    tools, setups = [], []
    for name in ("a", "b"):
        cutter = random_solid(chance, -1, 2, 4)[0]
        tools.append((name, cutter, less(random_solid(chance, -2, 3, 3)[0], cutter), chance.randint(0, 5)))
    for name in ("p", "q"):
        fixture = random_solid(chance, -3, 6, 1)[0] if chance.random() < 0.5 else ()
        setups.append((name, chance.randrange(24), random_point(chance, 0, 3), fixture))
    low, high = random_point(chance, -6, 0), random_point(chance, 2, 9)
    home = tuple(chance.randint(*pair) for pair in zip(low, high))
    return (stock, wished, chance.choice((0, 1)), (low, high, home, chance.randint(0, 3), 5, 20), tuple(tools), tuple(setups))


def some_jobs(seed, many):
    """So many drawn jobs, each fourth one a wild one."""
    chance, out = random.Random(seed), []
    while len(out) < many:
        job = wild_job(chance) if len(out) % 4 == 3 else random_job(chance)
        if is_job(job):
            out.append(job)
    return out
