"""The words of a machine's code, and the sums at the ends of its lines."""

from shopwhole.errors import BadText
from shopwhole.words import FIGURES, LETTERS, LONGEST_NAME, WORD_SIGNS

ROW = " 0123456789abcdefghijklmnopqrstuvwxyz_CGLMNOPSTXYZ.-*()"
MOST_SUM = 97
LENGTH_LETTERS = "XYZ"
NUMBER_LETTERS = "NGMLP"
NAME_LETTERS = "TSOC"
MOST_FIGURES = 6
MOST_FIGURES_BEHIND = 3


def sum_of(line):
    """The sum of a line, or of what stands ahead of its end."""
    # A sign that isn't in the row is found at -1, and so counts 0 times.
    return sum([place * (ROW.find(sign) + 1) for place, sign in enumerate(line, start=1)]) % MOST_SUM


def signs_end(line, start, signs, most):
    """The place behind the signs of a kind, so many at most, from a place of a line on."""
    end = start
    while end < len(line) and end - start < most and line[end] in signs:
        end += 1
    return end


def cut_number(line, number, start):
    """The number that begins at a place of a line, and the place behind it."""
    end = signs_end(line, start, FIGURES, MOST_FIGURES)
    if end == start:
        raise BadText(number, start + 1)
    return int(line[start:end]), end


def cut_length(line, number, start):
    """The length, in thousandths, that begins at a place of a line, and the place behind it."""
    is_minus = line[start:start + 1] == "-"
    whole, end = cut_number(line, number, start + 1 if is_minus else start)
    behind = ""
    if line[end:end + 1] == ".":
        point = end
        far = signs_end(line, point + 1, FIGURES, MOST_FIGURES_BEHIND)
        # Without figures behind it the point is left, and begins no word.
        if far > point + 1:
            behind, end = line[point + 1:far], far
    length = whole * 1000 + int(behind.ljust(3, "0"))
    return -length if is_minus else length, end


def cut_name(line, number, start):
    """The name that begins at a place of a line, and the place behind it."""
    end = signs_end(line, start, WORD_SIGNS, LONGEST_NAME + 1)
    name = line[start:end]
    if not 1 <= len(name) <= LONGEST_NAME or name[0] not in LETTERS:
        raise BadText(number, start + 1)
    return name, end


def cut_word(line, number, start):
    """What the word at a place of a line tells, and the place behind it."""
    letter = line[start]
    if letter in LENGTH_LETTERS:
        return cut_length(line, number, start + 1)
    if letter in NUMBER_LETTERS:
        return cut_number(line, number, start + 1)
    if letter in NAME_LETTERS:
        return cut_name(line, number, start + 1)
    raise BadText(number, start + 1)


def behind_remark(line, number, start):
    """The place behind the remark that begins at a place of a line."""
    end = line.find(")", start)
    if end == -1:
        raise BadText(number, start + 1)
    return end + 1


def check_sum(line, number, start):
    """Raises BadText unless the sign at a place of a line and the sum ahead of it end the line."""
    if line[start + 1:] != str(sum_of(line[:start])):
        raise BadText(number, start + 1)


def words_of(line, number):
    """The list of the words (letter, what it tells, column) of the line of a number; or raises BadText."""
    out, at = [], 0
    while at < len(line):
        if line[at] == " ":
            at += 1
        elif line[at] == "(":
            at = behind_remark(line, number, at)
        elif line[at] == "*":
            check_sum(line, number, at)
            at = len(line)
        else:
            told, end = cut_word(line, number, at)
            out.append((line[at], told, at + 1))
            at = end
    return out
