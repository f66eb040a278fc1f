"""A machine's code read: the program that it tells."""

from shopwhole.codelines import Course, check_end, wrong_word
from shopwhole.codewords import words_of
from shopwhole.errors import BadText

MOST_CALLED = 50000
END = ("M", 30)
PIECE_END = ("M", 99)


class Call:
    """A piece while it is called."""

    def __init__(self, rows, turns):
        self.rows = rows
        self.turns = turns
        # Behind its last line, as no turn has begun.
        self.at = len(rows)


class CodeReader:
    """Goes through the lines of a code."""

    def __init__(self, home):
        self.course = Course(home)
        self.latest = -1
        # The lines, (number, words), of pieces told to their end; then of the one that is being told.
        self.pieces = {}
        self.piece = None
        self.rows = []
        self.has_end = False
        self.called = 0

    def read_line(self, number, words):
        """Reads a line that is cut into words."""
        if self.has_end:
            check_end(number, words)
        if words and words[0][0] == "N":
            if words[0][1] <= self.latest:
                wrong_word(number, words[0])
            self.latest = words[0][1]
            words = words[1:]
        if self.piece is not None:
            self.read_within(number, words)
        elif words:
            self.read_outside(number, words)

    def read_within(self, number, words):
        """Keeps a line of a piece; but for its first word it is looked at when the piece is called."""
        first = words[0][:2] if words else ("", None)
        if first == PIECE_END:
            check_end(number, words[1:])
            self.pieces[self.piece] = self.rows
            self.piece = None
            return
        if first[0] == "O" or first == END or (first[0] == "C" and first[1] not in self.pieces):
            wrong_word(number, words[0])
        self.rows.append((number, words))

    def read_outside(self, number, words):
        """Reads a line outside of pieces."""
        letter, told, _ = words[0]
        if letter == "O":
            if told in self.pieces:
                wrong_word(number, words[0])
            check_end(number, words[1:])
            self.piece, self.rows = told, []
        elif (letter, told) == END:
            check_end(number, words[1:])
            self.has_end = True
        else:
            self.do_lines(number, words)

    def do_lines(self, number, words):
        """Does a line, and those of the pieces that are called by it."""
        calls = []
        self.do_line(number, words, calls)
        # Pieces may be called in many pieces one within another, too deep for functions that call themselves.
        while calls:
            call = calls[-1]
            if call.at < len(call.rows):
                number, words = call.rows[call.at]
                call.at += 1
                self.count_called(number)
                self.do_line(number, words, calls)
            elif call.turns > 0:
                call.turns -= 1
                call.at = 0
                self.count_called(number)
            else:
                calls.pop()

    def do_line(self, number, words, calls):
        """Does a line; a piece that it calls is put on a list of calls."""
        if words and words[0][0] == "C":
            calls.append(self.call_of(number, words))
        elif words:
            self.course.do_words(number, words)

    def call_of(self, number, words):
        """The call that a line tells."""
        name, turns = words[0][1], 1
        if name not in self.pieces:
            wrong_word(number, words[0])
        if len(words) > 1:
            letter, turns, _ = words[1]
            if letter != "L":
                wrong_word(number, words[1])
        check_end(number, words[2:])
        return Call(self.pieces[name], turns)

    def count_called(self, number):
        """Counts a line, or a turn, that is done by a call."""
        self.called += 1
        if self.called > MOST_CALLED:
            raise BadText(number, 1)


def read_code(text, home):
    """The program that a machine's code tells, the tool being at home at first; or raises BadText."""
    if not isinstance(text, str):
        raise BadText(0, 0)
    lines = text.split("\n")
    reader = CodeReader(home)
    for number, line in enumerate(lines, start=1):
        reader.read_line(number, words_of(line, number))
    if not reader.has_end:
        raise BadText(len(lines), len(lines[-1]) + 1)
    return tuple(reader.course.blocks)
