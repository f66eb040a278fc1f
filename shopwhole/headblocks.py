"""Programs for two heads: their blocks, meetings, and the parts between these."""

from shopwhole.blocks import is_block
from shopwhole.plain import is_integer, is_tuple_of

WORDS = ("tool", "rapid", "cut")


def is_meeting(thing):
    """Whether a thing is the block of a meeting."""
    return is_tuple_of(thing, 2) and thing[0] == "meet" and is_integer(thing[1])


def is_head_block(thing):
    """Whether a thing is a block of a head."""
    return is_meeting(thing) or (is_block(thing) and thing[0] in WORDS)


def is_head_program(thing):
    """Whether a thing is a tuple of blocks of a head, its meetings' numbers ascending."""
    if not isinstance(thing, tuple) or not all([is_head_block(block) for block in thing]):
        return False
    numbers = meetings_of(thing)
    return all([one < other for one, other in zip(numbers, numbers[1:])])


def meetings_of(blocks):
    """The list of the numbers of the meetings among blocks."""
    return [block[1] for block in blocks if block[0] == "meet"]


def parts_of(blocks):
    """The list of the lists of the blocks between meetings."""
    out = [[]]
    for block in blocks:
        if block[0] == "meet":
            out.append([])
        else:
            out[-1].append(block)
    return out
