"""An own machine and an own judge, going unit cube by unit cube, against which the tests hold the program's."""

from cubes import cubes_of, plus
from drawn import cube_placed
from shopwhole.solids import spread


class Stuck(Exception):
    """The own machine cannot go on; its first argument tells why."""


def names_of(things):
    return [told[0] for told in things]


def with_number(standing, axis, number):
    return tuple(number if k == axis else standing[k] for k in range(3))


def standings_to(start, axis, to):
    """The list of standings from one to that with a number along an axis, both in."""
    way = 1 if to >= start[axis] else -1
    return [with_number(start, axis, number) for number in range(start[axis], to + way, way)]


def is_in_travel(machine, standing):
    return all(machine[0][k] <= standing[k] <= machine[1][k] for k in range(3))


class OwnMachine:
    """The machine of promise 18, step by step."""

    def __init__(self, job):
        self.job, self.home = job, job[3][2]
        self.rest = cubes_of(job[0])
        self.setup = self.tool = None
        self.standing = self.home
        self.steps = 0

    def stuff(self):
        """The stock's cubes as they stand in the setup, to those of the part's space."""
        return {cube_placed(self.job[5][self.setup], cube): cube for cube in self.rest}

    def do(self, block):
        if block[0] in ("setup", "tool"):
            self.take(*block)
        elif block[0] != "rest":
            if self.setup is None or self.tool is None:
                raise Stuck("untold")
            for standing in standings_to(self.standing, block[1], block[2])[1:]:
                self.step(block[0] == "cut", standing)

    def take(self, word, name):
        names = names_of(self.job[5] if word == "setup" else self.job[4])
        if name not in names:
            raise Stuck("name")
        if self.standing != self.home:
            raise Stuck("away")
        if word == "setup":
            self.setup = names.index(name)
        else:
            self.tool = names.index(name)

    def step(self, is_cut, there):
        if not is_in_travel(self.job[3], there):
            raise Stuck("travel")
        tool, fixture = self.job[4][self.tool], cubes_of(self.job[5][self.setup][3])
        cutter, holder = [{plus(cube, there) for cube in cubes_of(solid)} for solid in tool[1:3]]
        if cutter & fixture:
            raise Stuck("cutter at fixture")
        stuff = self.stuff()
        met = cutter & set(stuff)
        if met and not is_cut:
            raise Stuck("cutter at stock")
        self.rest -= {stuff[cube] for cube in met}
        if holder & fixture:
            raise Stuck("holder at fixture")
        if holder & (set(stuff) - met):
            raise Stuck("holder at stock")
        self.standing, self.steps = there, self.steps + 1


def own_run(job, program):
    """(None or (number, why), the machine) of a program on the own machine."""
    machine = OwnMachine(job)
    for number, block in enumerate(program):
        try:
            machine.do(block)
        except Stuck as stuck:
            return (number, stuck.args[0]), machine
    return None, machine


def own_why_not(machine, block, wished):
    """Why a move is not let by, its standings taken together, the stock being as it was ahead; None if it is."""
    standings = standings_to(machine.standing, block[1], block[2])
    if not all(is_in_travel(machine.job[3], standing) for standing in standings):
        return "travel"
    tool, setup = machine.job[4][machine.tool], machine.job[5][machine.setup]
    cutter, holder = [{plus(cube, at) for cube in cubes_of(solid) for at in standings} for solid in tool[1:3]]
    fixture, stuff = cubes_of(setup[3]), machine.stuff()
    if cutter & fixture:
        return "cutter at fixture"
    if block[0] == "rapid" and cutter & set(stuff):
        return "cutter at stock"
    if block[0] == "cut" and cutter & {cube_placed(setup, cube) for cube in wished}:
        return "cutter at wished"
    if holder & fixture:
        return "holder at fixture"
    if holder & set(stuff):
        return "holder at stock"
    if block[0] == "cut":
        machine.rest -= {stuff[cube] for cube in cutter & set(stuff)}
    machine.standing = standings[-1]
    return None


def own_judge(job, program):
    """("good", cubes, time) or ("bad", number, why), going through all standings one at a time."""
    machine, time, wished = OwnMachine(job), 0, cubes_of(job[1])
    for number, block in enumerate(program):
        if block[0] == "rest":
            time += block[1]
        elif block[0] in ("setup", "tool"):
            try:
                machine.take(*block)
            except Stuck as stuck:
                return "bad", number, stuck.args[0]
            time += job[3][5] if block[0] == "setup" else job[3][4]
        else:
            if machine.setup is None or machine.tool is None:
                return "bad", number, "untold"
            units = abs(block[2] - machine.standing[block[1]])
            why = own_why_not(machine, block, wished)
            if why is not None:
                return "bad", number, why
            time += units * (job[4][machine.tool][3] if block[0] == "cut" else job[3][3])
    if machine.standing != machine.home:
        return "bad", len(program), "away"
    if not wished <= machine.rest:
        return "bad", len(program), "missing"
    if not machine.rest <= cubes_of(spread(job[1], job[2])):
        return "bad", len(program), "left"
    return "good", machine.rest, time


class NoPower(Exception):
    """There is no power for another step."""


def own_start(job, machine, program, stop, kept):
    """One start of promise 20: kept holds the journal and all standings since home; whether all is done."""
    power = None if stop is None else machine.steps + stop[0]

    def look():
        if power is not None and machine.steps >= power:
            raise NoPower

    try:
        while len(kept["way"]) > 1:
            look()
            kept["way"].pop()
            machine.standing, machine.steps = kept["way"][-1], machine.steps + 1
        whole = [mark for mark in kept["journal"] if mark is not None]
        first = whole[-1] + 1 if whole else 0
        for word in ("setup", "tool"):
            told = [block for block in program[:first] if block[0] == word]
            if told:
                machine.do(told[-1])
        for number in range(first, len(program)):
            word, block = program[number][0], program[number]
            if word in ("rapid", "cut"):
                machine.do((word, block[1], machine.standing[block[1]]))
                for standing in standings_to(machine.standing, block[1], block[2])[1:]:
                    look()
                    machine.step(word == "cut", standing)
                    kept["way"].append(standing)
            else:
                machine.do(block)
            if machine.standing == machine.home:
                kept["way"] = [machine.home]
                if stop is not None and stop[1] and machine.steps >= power:
                    kept["journal"].append(None)
                    return False
                kept["journal"].append(number)
        return True
    except NoPower:
        return False


def own_history(job, program, history):
    """(word, starts), the cubes left, the steps, the journal of a history of stops."""
    machine, kept = OwnMachine(job), {"journal": [], "way": [job[3][2]]}
    for starts, stop in enumerate((*history, None), 1):
        try:
            if own_start(job, machine, program, stop, kept):
                return ("done", starts), machine.rest, machine.steps, kept["journal"]
        except Stuck:
            return ("alarm", starts), machine.rest, machine.steps, kept["journal"]
    raise AssertionError("never done")


def other_block(chance, block):
    """A block that is much like another one."""
    if block[0] in ("setup", "tool"):
        return (block[0], chance.choice(("a", "b", "p", "q", "nothing")))
    if block[0] == "rest":
        return ("rest", chance.randint(0, 9))
    return chance.choice((
        (block[0], block[1], block[2] + chance.choice((-2, -1, 1, 2))),
        ("cut" if block[0] == "rapid" else "rapid", *block[1:]),
        (block[0], chance.randint(0, 2), block[2]),
        ("rest", 3),
    ))


def other_program(chance, program):
    """A program that is much like another one, not empty."""
    place, kind = chance.randrange(len(program)), chance.randrange(5)
    ahead, behind = program[:place], program[place + 1:]
    if kind == 0:
        return (*ahead, *behind)
    if kind == 1:
        return (*ahead, program[place], other_block(chance, program[place]), *behind)
    if kind == 2:
        return (*ahead, *behind[:1], program[place], *behind[1:])
    return (*ahead, other_block(chance, program[place]), *behind)


def like_programs(chance, program, many):
    """The program, and so many that are much like it."""
    yield program
    for _ in range(many):
        told = program
        for _ in range(chance.randint(1, 3)):
            told = other_program(chance, told) if told else told
        yield told
