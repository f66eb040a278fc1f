"""Blocks of programs."""

from shopwhole.plain import is_count, is_integer, is_tuple_of

MOVES = ("rapid", "cut")
TAKES = ("setup", "tool")
MOST_REST = 100000


def is_block(thing):
    """Whether a thing is a block."""
    if is_tuple_of(thing, 3):
        return thing[0] in MOVES and is_count(thing[1], 0, 2) and is_integer(thing[2])
    if is_tuple_of(thing, 2):
        return (thing[0] in TAKES and isinstance(thing[1], str)) or (
            thing[0] == "rest" and is_count(thing[1], 0, MOST_REST))
    return False


def is_move(block):
    """Whether a block is a move."""
    return block[0] in MOVES


def number_of(things, name):
    """The number of the first of some things, setups or tools, with a name; None without one."""
    for number, told in enumerate(things):
        if told[0] == name:
            return number
    return None
