"""Programs written as a machine's code."""

from shopwhole.blocks import is_move
from shopwhole.codewords import LENGTH_LETTERS, sum_of
from shopwhole.lengths import length_text
from shopwhole.plain import with_number

WAYS_LINE = "G91"
END_LINE = "M30"


def block_line(block):
    """The line of a block."""
    if block[0] == "setup":
        return f"S{block[1]}"
    if block[0] == "tool":
        return f"T{block[1]}"
    if block[0] == "rest":
        return f"G4 P{block[1]}"
    kind = 1 if block[0] == "cut" else 0
    return f"G{kind} {LENGTH_LETTERS[block[1]]}{length_text(block[2])}"


def code_text(program, has_sums):
    """A code that is read as a program, with sums at the ends of its lines or without."""
    lines = [block_line(block) for block in program] + [END_LINE]
    if has_sums:
        lines = [f"{line}*{sum_of(line)}" for line in lines]
    return "\n".join(lines)


def as_ways(program, home):
    """The list of the blocks of a program, begun at home, with ways in the place of numbers to go to."""
    out, at = [], home
    for block in program:
        if is_move(block):
            word, axis, to = block
            out.append((word, axis, to - at[axis]))
            at = with_number(at, axis, to)
        else:
            out.append(block)
    return out


def relative_text(program, home):
    """A code, with ways alone, that is read as a program."""
    return "\n".join([WAYS_LINE, *[block_line(block) for block in as_ways(program, home)], END_LINE])
