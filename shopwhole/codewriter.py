"""Programs written as a machine's code."""

from shopwhole.codewords import LENGTH_LETTERS, sum_of
from shopwhole.lengths import length_text
from shopwhole.relative import as_ways

WAYS_LINE = "G91"
END_LINE = "M30"


def block_line(block):
    """The line of a block."""
    if block[0] == "setup":
        return f"S{block[1]}"
    if block[0] == "tool":
        return f"T{block[1]}"
    if block[0] == "rest":
        return f"G4 P{block[1]}"
    kind = 1 if block[0] == "cut" else 0
    return f"G{kind} {LENGTH_LETTERS[block[1]]}{length_text(block[2])}"


def code_text(program, has_sums):
    """A code that is read as a program, with sums at the ends of its lines or without."""
    lines = [block_line(block) for block in program] + [END_LINE]
    if has_sums:
        lines = [f"{line}*{sum_of(line)}" for line in lines]
    return "\n".join(lines)


def relative_text(program, home):
    """A code, with ways alone, that is read as a program."""
    return "\n".join([WAYS_LINE, *[block_line(block) for block in as_ways(program, home)], END_LINE])
