"""Groups and shapes in texts, and the lines that tell numbers and shapes by names."""

from shopwhole.forms import count_of
from shopwhole.jobchecks import MOST_BOXES, is_far
from shopwhole.plain import sorted_corners, times, with_number
from shopwhole.solids import box, less, meet, mirrored, moved, union
from shopwhole.textpieces import wrong_at
from shopwhole.textsums import read_count, read_length, read_point, read_sum
from shopwhole.turns import turned

AXIS_WORDS = ("x", "y", "z")
MOST_IN_ARRAY = 50
MOST_TURN = 23


def is_too_much(solid):
    """Whether a solid has too many boxes, or lies too far off."""
    return count_of(solid) > MOST_BOXES or is_far(solid)


def read_box(reader):
    """The solid of `box P to P`."""
    reader.take("box")
    one = read_point(reader)
    reader.take("to")
    place = reader.place()
    two = read_point(reader)
    low, high = sorted_corners(one, two)
    solid = box(low, high)
    if solid == ():
        wrong_at(place)
    return solid


def read_moved(reader):
    """The solid of `at P G`."""
    reader.take("at")
    by = read_point(reader)
    return moved(read_group(reader), by)


def read_mirrored(reader):
    """The solid of `mirror A at L G`."""
    reader.take("mirror")
    if reader.what() not in AXIS_WORDS:
        wrong_at(reader.place())
    axis = AXIS_WORDS.index(reader.what())
    reader.step()
    reader.take("at")
    plane = read_length(reader)
    solid = read_group(reader)
    return union(solid, moved(mirrored(solid, axis), with_number((0, 0, 0), axis, 2 * plane)))


def read_array(reader):
    """The solid of `array N by P G`."""
    start = reader.place()
    reader.take("array")
    many = read_count(reader, 1, MOST_IN_ARRAY)
    reader.take("by")
    by = read_point(reader)
    solid = read_group(reader)
    made = solid
    for step in range(1, many):
        made = union(made, moved(solid, times(by, step)))
        if is_too_much(made):
            wrong_at(start)
    return made


def read_turned(reader):
    """The solid of `turn N G`."""
    reader.take("turn")
    turn = read_count(reader, 0, MOST_TURN)
    return turned(read_group(reader), turn)


def read_named(reader):
    """The solid of the shape that was told by a name."""
    name = reader.what()
    if name not in reader.shapes:
        wrong_at(reader.place())
    reader.step()
    return reader.shapes[name]


SHAPES = {"box": read_box, "at": read_moved, "mirror": read_mirrored, "array": read_array, "turn": read_turned}


def read_shape(reader):
    """The solid of the shape that comes next."""
    word = reader.what()
    if word in SHAPES:
        read = SHAPES[word]
        return read(reader)
    return read_named(reader)


def read_statement(reader, made):
    """What the statement that comes next makes of a solid."""
    start = reader.place()
    if reader.sees("cut"):
        reader.step()
        made = less(made, read_shape(reader))
    elif reader.sees("keep"):
        reader.step()
        made = meet(made, read_shape(reader))
    else:
        made = union(made, read_shape(reader))
    if is_too_much(made):
        wrong_at(start)
    return made


def read_group(reader):
    """The solid of the group that comes next."""
    reader.take("{")
    reader.go_in()
    made = ()
    reader.skip_ends()
    while not reader.sees("}"):
        made = read_statement(reader, made)
        if not reader.sees("}"):
            reader.take("\n")
            reader.skip_ends()
    reader.step()
    reader.go_out()
    return made


def is_telling(reader):
    """Whether a line that tells a number or a shape comes next."""
    return reader.sees("let") or reader.sees("shape")


def read_telling(reader):
    """Keeps what the line tells that comes next."""
    is_number = reader.sees("let")
    reader.step()
    name = reader.new_name()
    if is_number:
        reader.take("=")
        reader.numbers[name] = read_sum(reader)
    else:
        reader.shapes[name] = read_group(reader)
