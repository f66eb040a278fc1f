"""Sums in texts: what they tell, and the lengths, counts and points made of them."""

from shopwhole.ratios import fraction, minus, product_of_two, sum_of_two
from shopwhole.textpieces import wrong_at

GREATEST = 1000000000000


def within_reach(told, place):
    """A fraction, unless it is of too great numbers: then what begins at a place is wrong."""
    if abs(told[0]) > GREATEST or told[1] > GREATEST:
        wrong_at(place)
    return told


def read_bare_factor(reader):
    """The fraction of the factor that comes next, by itself."""
    if reader.sees("-"):
        reader.step()
        return minus(read_factor(reader))
    if reader.sees("("):
        reader.step()
        told = read_sum(reader)
        reader.take(")")
        return told
    told = reader.what()
    if told in reader.numbers:
        told = reader.numbers[told]
    elif reader.kind() != "number":
        wrong_at(reader.place())
    reader.step()
    return told


def read_factor(reader):
    """The fraction of the factor that comes next."""
    reader.go_in()
    told = read_bare_factor(reader)
    reader.go_out()
    return told


def read_divisor(reader):
    """The fraction by which one multiplies to divide by the factor that comes next."""
    place = reader.place()
    above, below = read_factor(reader)
    if above == 0:
        wrong_at(place)
    return fraction(below, above)


def read_product(reader):
    """The fraction of the product that comes next."""
    place = reader.place()
    told = read_factor(reader)
    while reader.sees("*") or reader.sees("/"):
        is_division = reader.sees("/")
        reader.step()
        factor = read_divisor(reader) if is_division else read_factor(reader)
        told = within_reach(product_of_two(told, factor), place)
    return told


def read_sum(reader):
    """The fraction of the sum that comes next."""
    place = reader.place()
    told = read_product(reader)
    while reader.sees("+") or reader.sees("-"):
        is_minus = reader.sees("-")
        reader.step()
        product = read_product(reader)
        told = within_reach(sum_of_two(told, minus(product) if is_minus else product), place)
    return told


def read_length(reader):
    """The thousandths of the length that comes next."""
    place = reader.place()
    above, below = read_sum(reader)
    if above * 1000 % below != 0:
        wrong_at(place)
    return above * 1000 // below


def read_count(reader, low, high):
    """The whole number, from low to high, that comes next."""
    place = reader.place()
    above, below = read_sum(reader)
    if below != 1 or not low <= above <= high:
        wrong_at(place)
    return above


def read_point(reader):
    """The three lengths that come next."""
    x = read_length(reader)
    reader.take(",")
    y = read_length(reader)
    reader.take(",")
    return (x, y, read_length(reader))
