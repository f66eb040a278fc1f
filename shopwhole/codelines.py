"""Lines of a machine's code, cut into words, done one by one: the blocks that they tell."""

from shopwhole.blocks import MOST_REST
from shopwhole.codewords import LENGTH_LETTERS
from shopwhole.errors import BadText
from shopwhole.plain import with_number

MOST_BLOCKS = 20000
KINDS = ("rapid", "cut")
TAKEN = {"S": "setup", "T": "tool"}
REST = 4
PLACES = 90
WAYS = 91


def wrong_word(number, word):
    """Raises BadText at the letter of a word in the line of a number."""
    raise BadText(number, word[2])


def check_end(number, words):
    """Raises BadText unless there are no more words."""
    if words:
        wrong_word(number, words[0])


def lengths_of(number, words):
    """The dict of axes to lengths that words tell, each axis once at most."""
    out = {}
    for word in words:
        axis = LENGTH_LETTERS.find(word[0])
        if axis == -1 or axis in out:
            wrong_word(number, word)
        out[axis] = word[1]
    return out


def ticks_of(number, words):
    """The ticks of a rest, told by all the words of its line."""
    if len(words) == 1:
        wrong_word(number, words[0])
    letter, ticks, _ = words[1]
    if letter != "P" or ticks > MOST_REST:
        wrong_word(number, words[1])
    check_end(number, words[2:])
    return ticks


class Course:
    """What lines have told so far: blocks, and how the next ones are to be taken."""

    def __init__(self, home):
        self.blocks = []
        self.standing = home
        # The kind of moves, as the last G0 or G1 told it.
        self.going = None
        self.has_ways = False

    def put_block(self, number, word, block):
        """Puts a block, told by a word, behind the others."""
        if len(self.blocks) == MOST_BLOCKS:
            wrong_word(number, word)
        self.blocks.append(block)

    def go(self, number, word, lengths):
        """Moves along the axes of a dict of lengths."""
        for axis in range(3):
            if axis in lengths:
                to = lengths[axis] + (self.standing[axis] if self.has_ways else 0)
                self.put_block(number, word, (self.going, axis, to))
                self.standing = with_number(self.standing, axis, to)

    def do_words(self, number, words):
        """Does the words, one at least, of a line that calls no piece."""
        letter, told, _ = words[0]
        if letter in TAKEN:
            check_end(number, words[1:])
            self.put_block(number, words[0], (TAKEN[letter], told))
        elif letter in LENGTH_LETTERS and self.going is not None:
            self.go(number, words[0], lengths_of(number, words))
        elif letter == "G" and told in (0, 1):
            self.going = KINDS[told]
            self.go(number, words[0], lengths_of(number, words[1:]))
        elif letter == "G" and told == REST:
            self.put_block(number, words[0], ("rest", ticks_of(number, words)))
        elif letter == "G" and told in (PLACES, WAYS):
            check_end(number, words[1:])
            self.has_ways = told == WAYS
        else:
            wrong_word(number, words[0])
