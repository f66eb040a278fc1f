"""Good programs made longer in ways that change nothing."""

from ownshop import with_number


def parted_move(chance, block, at):
    """A move in two."""
    word, axis, to = block
    low, high = min(at[axis], to), max(at[axis], to)
    return [(word, axis, chance.randint(low, high)), block]


def for_nothing(chance, at, home, setup, tool):
    """Blocks that change nothing where the tool stands."""
    kind = chance.randrange(6)
    if kind == 0:
        return [("rest", chance.choice((0, 0, 0, 7)))]
    if kind in (1, 2) and setup is not None and tool is not None:
        axis = chance.randrange(3)
        return [(chance.choice(("rapid", "cut")), axis, at[axis])]
    if kind == 3 and at == home and setup is not None:
        return [("setup", setup)]
    if kind == 4 and at == home and tool is not None:
        return [("tool", tool)]
    return []


def longer(chance, job, program):
    """A program that does the same, but for ticks, with more in it as a rule."""
    out, at, taken = [], job[3][2], {"setup": None, "tool": None}
    for block in program:
        while chance.random() < 0.3:
            out.extend(for_nothing(chance, at, job[3][2], taken["setup"], taken["tool"]))
        if len(block) == 3:
            kind = chance.randrange(5)
            if kind == 0:
                out.extend(parted_move(chance, block, at))
            elif kind == 1 and block[0] == "rapid":
                out.append(("cut", *block[1:]))
            elif kind == 2:
                # Back the way that it came, and there again.
                out.extend([block, ("rapid", block[1], at[block[1]]), ("rapid", *block[1:])])
            else:
                out.append(block)
            at = with_number(at, block[1], block[2])
        else:
            out.append(block)
            if block[0] in taken:
                taken[block[0]] = block[1]
    return (*out, *for_nothing(chance, at, job[3][2], taken["setup"], taken["tool"]))
