"""Programs folded: rows of blocks that come again and again are told once, as pieces, and called."""

from shopwhole.codewriter import END_LINE, WAYS_LINE, block_line
from shopwhole.relative import as_places, as_ways

LONGEST_ROW = 40
# Beside its rows a piece has a line for its beginning and one for its end; and each call has one.
LINES_OF_PIECE = 2
LINES_OF_CALL = 1


def numbers_of(blocks):
    """For each block a number, the same for the same blocks: numbers are compared more quickly."""
    known = {}
    return [known.setdefault(block, len(known)) for block in blocks]


def runs_of(numbers, step):
    """For each place how many numbers from it on are the same as those a step further on, one behind another."""
    out = [0 for _ in numbers]
    for place in range(len(numbers) - step - 1, -1, -1):
        if numbers[place] == numbers[place + step]:
            out[place] = out[place + 1] + 1
    return out


class Folder:
    """Blocks with ways, while they are folded."""

    def __init__(self, blocks):
        self.blocks = blocks
        numbers = numbers_of(blocks)
        self.runs = [runs_of(numbers, step) for step in range(1, LONGEST_ROW + 1)]
        self.names = {}
        self.told = []

    def saved(self, place, long, turns):
        """How many lines are saved if a row at a place, so long, is called so many turns."""
        lines = LINES_OF_CALL
        if tuple(self.blocks[place:place + long]) not in self.names:
            lines += long + LINES_OF_PIECE
        return long * turns - lines

    def best_row(self, place):
        """(lines saved, how long it is, its turns) of the row at a place that saves most; (0, 1, 1) if none does."""
        best = (0, 1, 1)
        for long in range(1, LONGEST_ROW + 1):
            turns = 1 + self.runs[long - 1][place] // long
            if turns > 1 and long * turns > best[0]:
                lines = self.saved(place, long, turns)
                if lines > best[0]:
                    best = (lines, long, turns)
        return best

    def fold(self):
        """Folds all blocks, from the first one on."""
        place = 0
        while place < len(self.blocks):
            lines, long, turns = self.best_row(place)
            if lines > 0:
                row = tuple(self.blocks[place:place + long])
                name = self.names.setdefault(row, f"p{len(self.names)}")
                self.told.append(("call", name, turns))
            else:
                self.told.append(self.blocks[place])
            place += long * turns


def folded(program, home):
    """(pieces, items): a list of (name, blocks), and one of blocks and ("call", name, times), both with ways."""
    folder = Folder(as_ways(program, home))
    folder.fold()
    return [(name, row) for row, name in folder.names.items()], folder.told


def unfolded(pieces, items, home):
    """The program that pieces and items tell."""
    known = {name: list(blocks) for name, blocks in pieces}
    blocks = []
    for item in items:
        if item[0] == "call":
            blocks.extend(known[item[1]] * item[2])
        else:
            blocks.append(item)
    return tuple(as_places(blocks, home))


def folded_text(program, home):
    """A code, with pieces for rows that come again and again, that is read as a program."""
    pieces, items = folded(program, home)
    lines = [WAYS_LINE]
    for name, blocks in pieces:
        lines.extend([f"O{name}", *[block_line(block) for block in blocks], "M99"])
    for item in items:
        lines.append(f"C{item[1]} L{item[2]}" if item[0] == "call" else block_line(item))
    return "\n".join([*lines, END_LINE])
