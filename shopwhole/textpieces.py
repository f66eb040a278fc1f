"""Texts cut into pieces, and a reader that goes through them.

A piece is (kind, what, line, column); its kind is "own" (an own word), "name" (another word), "number", "sign",
"end" (of a line), "stop" (of the text) or "wrong". What it tells is a fraction (above, below) for a number, None
where it tells nothing, else a string, which no piece of another kind tells.
"""

from shopwhole.errors import BadText
from shopwhole.ratios import fraction
from shopwhole.words import FIGURES, OWN_WORDS, WORD_SIGNS

SIGNS = "+-*/(),={}:"
WORD_STARTS = "abcdefghijklmnopqrstuvwxyz_"
BEHIND_NUMBERS = "abcdefghijklmnopqrstuvwxyzABCDEFGHIJKLMNOPQRSTUVWXYZ_."
MOST_FIGURES = 6
MOST_FIGURES_BEHIND = 3
MOST_WITHIN = 20


def run_end(line, start, signs):
    """The place behind all signs of a kind from a place of a line on."""
    end = start
    while end < len(line) and line[end] in signs:
        end += 1
    return end


def number_told(before, behind):
    """What a number of these figures tells; None if they are none."""
    if len(before) > MOST_FIGURES or (len(before) > 1 and before[0] == "0"):
        return None
    if len(behind) > MOST_FIGURES_BEHIND:
        return None
    return fraction(int(before) * 1000 + int(behind.ljust(3, "0")), 1000)


def cut_number(line, start):
    """The kind, what it tells, and the end of the number at a place of a line."""
    end = run_end(line, start, FIGURES)
    before, behind = line[start:end], ""
    if end + 1 < len(line) and line[end] == "." and line[end + 1] in FIGURES:
        point = end
        end = run_end(line, point + 1, FIGURES)
        behind = line[point + 1:end]
    told = number_told(before, behind)
    if told is None or (end < len(line) and line[end] in BEHIND_NUMBERS):
        return "wrong", None, end
    return "number", told, end


def cut_piece(line, start):
    """The kind, what it tells, and the end of the piece at a place of a line."""
    sign = line[start]
    if sign in FIGURES:
        return cut_number(line, start)
    if sign in WORD_STARTS:
        end = run_end(line, start, WORD_SIGNS)
        word = line[start:end]
        return "own" if word in OWN_WORDS else "name", word, end
    if sign in SIGNS:
        return "sign", sign, start + 1
    return "wrong", None, start + 1


def pieces_of_line(line, number):
    """The list of the pieces of a line, but for its end."""
    out = []
    at = run_end(line, 0, " ")
    while at < len(line) and line[at] != "#":
        kind, what, end = cut_piece(line, at)
        out.append((kind, what, number, at + 1))
        at = run_end(line, end, " ")
    return out


def pieces_of(text):
    """The list of the pieces of a text, wrong ones too: what is wrong ahead of them is told first."""
    out = []
    lines = text.split("\n")
    for number, line in enumerate(lines, start=1):
        out.extend(pieces_of_line(line, number))
        is_last = number == len(lines)
        out.append(("stop" if is_last else "end", None if is_last else "\n", number, len(line) + 1))
    return out


def wrong_at(place):
    """Raises BadText at a place (line, column)."""
    raise BadText(place[0], place[1])


class Reader:
    """Goes through the pieces of a text, and keeps what was told by names."""

    def __init__(self, text):
        if not isinstance(text, str):
            raise BadText(0, 0)
        self.rows = pieces_of(text)
        self.at = 0
        self.within = 0
        self.numbers = {}
        self.shapes = {}

    def kind(self):
        """The kind of the next piece."""
        return self.rows[self.at][0]

    def what(self):
        """What the next piece tells."""
        return self.rows[self.at][1]

    def place(self):
        """The line and column of the next piece."""
        return self.rows[self.at][2:]

    def sees(self, what):
        """Whether the next piece is an own word, a sign, or with a line feed the end of a line."""
        return self.what() == what

    def step(self):
        """Goes behind the next piece."""
        self.at += 1

    def take(self, what):
        """Goes behind the next piece, which must be an own word, a sign or the end of a line."""
        if not self.sees(what):
            wrong_at(self.place())
        self.step()

    def skip_ends(self):
        """Goes behind the ends of lines that come next."""
        while self.kind() == "end":
            self.step()

    def end_line(self):
        """Goes behind the end of a line, or stays at the end of the text; nothing else may come."""
        if self.kind() != "stop":
            self.take("\n")

    def go_in(self):
        """Goes into a brace, or a factor; the next piece is wrong if it is one too many."""
        if self.within == MOST_WITHIN:
            wrong_at(self.place())
        self.within += 1

    def go_out(self):
        """Goes out of a brace, or a factor."""
        self.within -= 1

    def knows(self, name):
        """Whether a number or a shape was told by a name."""
        return name in self.numbers or name in self.shapes

    def new_name(self):
        """Goes behind a name by which no number and no shape was told, and returns it."""
        if self.kind() != "name" or self.knows(self.what()):
            wrong_at(self.place())
        name = self.what()
        self.step()
        return name
