"""An own machine of two heads, and an own judge, going unit cube by unit cube."""

from cubes import cubes_of, plus
from drawn import cube_placed
from ownshop import OwnMachine, Stuck, is_in_travel, names_of, own_why_not, standings_to
from shopwhole.solids import spread


class OwnTwo:
    """The machine of promise 40: two heads, whose places in their programs, steps in a move and meetings are kept."""

    def __init__(self, job, machine, at, programs):
        self.heads = []
        for told, program in zip((job[3], machine), programs):
            head = OwnMachine((*job[:3], told, *job[4:]))
            head.setup, head.program, head.at, head.met = at, program, 0, 0
            self.heads.append(head)
        self.share(self.heads[0])

    def share(self, head):
        for other in self.heads:
            other.rest = head.rest

    def key(self):
        """All on which what comes next hangs."""
        return tuple((head.at, head.standing, head.tool, head.met) for head in self.heads) + (frozenset(self.heads[0].rest),)

    def copied(self):
        other = OwnTwo.__new__(OwnTwo)
        other.heads = []
        for head in self.heads:
            made = OwnMachine(head.job)
            made.__dict__.update(head.__dict__)
            made.rest = set(self.heads[0].rest)
            other.heads.append(made)
        other.share(other.heads[0])
        return other

    def can_go(self, number):
        head, other = self.heads[number], self.heads[1 - number]
        return head.at < len(head.program) and head.met <= other.met

    def tool_cubes(self, head):
        if head.tool is None:
            return set()
        tool = head.job[4][head.tool]
        return {plus(cube, head.standing) for solid in tool[1:3] for cube in cubes_of(solid)}

    def go(self, number):
        """The next step or block of a head; raises Stuck."""
        head = self.heads[number]
        block = head.program[head.at]
        try:
            if block[0] == "meet":
                head.met += 1
            elif block[0] == "tool":
                head.take(*block)
                tool = self.tool_cubes(head)
                if tool & (set(head.stuff()) | cubes_of(head.job[5][head.setup][3])):
                    raise Stuck("tool at stuff")
            else:
                if head.tool is None:
                    raise Stuck("untold")
                way = standings_to(head.standing, *block[1:])
                if len(way) > 1:
                    head.step(block[0] == "cut", way[1])
                if len(way) > 2:
                    return
            head.at += 1
        finally:
            self.share(head)
            if self.tool_cubes(self.heads[0]) & self.tool_cubes(self.heads[1]):
                raise Stuck("heads")


def own_run_two(job, machine, at, programs, turns):
    """(("done",) or ("alarm", head), cubes left in the part's space)."""
    two = OwnTwo(job, machine, at, programs)
    turns = list(turns)
    while True:
        first = turns.pop(0) if turns else 0
        able = [number for number in (first, 1 - first) if two.can_go(number)]
        if not able:
            return ("done",), two.heads[0].rest
        try:
            two.go(able[0])
        except Stuck:
            return ("alarm", able[0]), two.heads[0].rest


def all_ends(job, machine, at, programs):
    """The set of all ends, ("done", cubes) or ("alarm",), whatever the order of steps, and how many states there are."""
    begin = OwnTwo(job, machine, at, programs)
    known, queue, ends = {begin.key()}, [begin], set()
    while queue:
        two = queue.pop()
        able = [number for number in (0, 1) if two.can_go(number)]
        if not able:
            ends.add(("done", frozenset(two.heads[0].rest)))
        for number in able:
            other = two.copied()
            try:
                other.go(number)
            except Stuck:
                ends.add(("alarm",))
                continue
            if other.key() not in known:
                known.add(other.key())
                queue.append(other)
    return ends, len(known)


def split(blocks):
    out = [[]]
    for block in blocks:
        if block[0] == "meet":
            out.append([])
        else:
            out[-1].append(block)
    return out


def own_part(head, blocks, wished):
    """What the tools of a head take up in a part, as it cuts alone; raises Stuck."""
    taken = set()

    def stand(standings):
        if head.tool is not None:
            tool = head.job[4][head.tool]
            taken.update(plus(cube, at) for at in standings for solid in tool[1:3] for cube in cubes_of(solid))

    stand([head.standing])
    for block in blocks:
        if block[0] == "tool":
            head.take(*block)
            mine = {plus(cube, head.standing) for solid in head.job[4][head.tool][1:3] for cube in cubes_of(solid)}
            if mine & (set(head.stuff()) | cubes_of(head.job[5][head.setup][3])):
                raise Stuck("tool at stuff")
            stand([head.standing])
        else:
            if head.tool is None:
                raise Stuck("untold")
            way = standings_to(head.standing, *block[1:])
            why = own_why_not(head, block, wished)
            if why is not None:
                raise Stuck(why)
            stand(way)
    return taken


def own_judge_two(job, machine, at, programs):
    """("good", cubes) or ("bad", part, why), for a pair that is two programs."""
    heads = []
    for told in (job[3], machine):
        head = OwnMachine((*job[:3], told, *job[4:]))
        head.setup = at
        heads.append(head)
    wished, rest = cubes_of(job[1]), cubes_of(job[0])
    rows = list(zip(split(programs[0]), split(programs[1])))
    for number, blocks in enumerate(rows):
        taken, left = [], []
        for head, part in zip(heads, blocks):
            head.rest = set(rest)
            try:
                taken.append(own_part(head, part, wished))
            except Stuck as stuck:
                return "bad", number, stuck.args[0]
            left.append(head.rest)
        if taken[0] & taken[1]:
            return "bad", number, "heads"
        rest = left[0] & left[1]
    if any(head.standing != head.home for head in heads):
        return "bad", len(rows), "away"
    if not wished <= rest or not rest <= cubes_of(spread(job[1], job[2])):
        return "bad", len(rows), "stock"
    return "good", rest


def is_home_free(job, machine, at):
    """Whether all tools at a machine's home are free of the job's stock and fixture."""
    setup = job[5][at]
    stuff = {cube_placed(setup, cube) for cube in cubes_of(job[0])} | cubes_of(setup[3])
    return is_in_travel(machine, machine[2]) and bool(names_of(job[4])) and not any(
        plus(cube, machine[2]) in stuff for tool in job[4] for solid in tool[1:3] for cube in cubes_of(solid))
