"""Promises 27 and 28: codes read as programs."""

import random
import unittest

from shopwhole.codereader import read_code
from shopwhole.codewords import sum_of
from shopwhole.errors import BadText

HOME = (1000, 2000, 30000)


class Course:
    """A code that is written at random, with the program that it tells."""

    def __init__(self, chance):
        self.chance = chance
        self.lines, self.program = [], []
        self.standing, self.going, self.has_ways, self.number = HOME, None, False, 0
        self.pieces = {}

    def length(self):
        length = self.chance.choice((0, 500, -500, 1, 12340, -7000, self.chance.randint(-99999, 99999)))
        sign, (whole, rest) = "-" if length < 0 else self.chance.choice(("", "", "-" if length == 0 else "")), divmod(abs(length), 1000)
        text = f"{whole:0{self.chance.randint(1, 6)}d}"
        if rest or self.chance.random() < 0.3:
            text += f".{rest:03d}"
            while text.endswith("0") and text[-2] != "." and self.chance.random() < 0.8:
                text = text[:-1]
        return length, sign + text

    def move(self, has_g):
        """The words of a move, and what it does: a function, as in a piece it is done later."""
        axes = self.chance.sample(range(3), self.chance.randint(0 if has_g else 1, 3))
        told = {axis: self.length() for axis in axes}
        kind = self.chance.randrange(2)
        words = [self.chance.choice((f"G{kind}", f"G0{kind}"))] if has_g else []

        def do():
            if has_g:
                self.going = ("rapid", "cut")[kind]
            for axis in sorted(told):
                to = told[axis][0] + (self.standing[axis] if self.has_ways else 0)
                self.program.append((self.going, axis, to))
                self.standing = tuple(to if k == axis else self.standing[k] for k in range(3))

        return words + ["XYZ"[axis] + told[axis][1] for axis in axes], do

    def words(self):
        """The words of a line outside of O, M99 and M30, and what it does."""
        chance = self.chance
        kind = chance.randrange(9)
        if kind == 0:
            word, name = chance.choice((("S", "flat"), ("T", "mill"), ("T", "box"), ("S", "a_1")))
            return [word + name], lambda: self.program.append(({"S": "setup", "T": "tool"}[word], name))
        if kind == 1:
            ticks = chance.choice((0, 5, 100000))
            return [chance.choice(("G4", "G04")), f"P{ticks}"], lambda: self.program.append(("rest", ticks))
        if kind == 2:
            has_ways = chance.random() < 0.5
            return ["G91" if has_ways else "G90"], lambda: setattr(self, "has_ways", has_ways)
        if kind == 3:
            return [], lambda: None
        if kind == 4 and self.pieces:
            name, times = chance.choice(sorted(self.pieces)), chance.randint(0, 3)
            does = self.pieces[name]
            told = ["L" + str(times)] if times != 1 or chance.random() < 0.5 else []

            def call():
                for _ in range(times):
                    for do in does:
                        do()

            return ["C" + name] + told, call
        return self.move(self.lines == [] or chance.random() < 0.6)

    def write(self, words):
        chance = self.chance
        if chance.random() < 0.4:
            self.number += chance.randint(1, 20)
            words = [f"N{self.number}"] + words
        line = chance.choice(("", " ", "(ahead)")) + "".join([word + chance.choice(("", " ", "  ", "(in) ")) for word in words])
        self.lines.append(line + (f"*{sum_of(line)}" if chance.random() < 0.4 else ""))

    def write_line(self):
        words, do = self.words()
        self.write(words)
        do()

    def write_piece(self):
        name = f"p{len(self.pieces)}"
        self.write(["O" + name])
        does = []
        for _ in range(self.chance.randint(0, 4)):
            words, do = self.words()
            self.write(words)
            does.append(do)
        self.write(["M99"])
        self.pieces[name] = does

    def text(self):
        self.lines.append("G0")
        self.going = "rapid"
        for _ in range(self.chance.randint(0, 25)):
            if self.chance.random() < 0.15:
                self.write_piece()
            else:
                self.write_line()
        self.write(["M30"])
        for _ in range(self.chance.randint(0, 2)):
            self.lines.append(self.chance.choice(("", "  ", "(end)")))
        return "\n".join(self.lines)


class Codes(unittest.TestCase):
    def assert_read(self, text, program, home=(0, 0, 0)):
        self.assertEqual(read_code(text, home), program, text)

    def test_the_document_s_code(self):
        self.assert_read("Tmill\nG0 X1 Y2\nG91\nG1 Z-0.5\nM30",
                         (("tool", "mill"), ("rapid", 0, 1000), ("rapid", 1, 2000), ("cut", 2, -500)))

    def test_no_blocks(self):
        for text in ("M30", "M30\n", "\n\n  \n(in) M30 (out)\n \n(behind)\n*0", "N0M30", "G90\nG91\nG0\nG1\nM30", "N1\nN2\nM30",
                     "Oa\nM99\nM30", "Oa\nX1 Tany N5 M7\nM99\nM30", "M030"):
            self.assert_read(text, ())

    def test_takes_and_rests(self):
        self.assert_read("Sflat\nTmill\nTbox\nG4 P0\nG4P100000\nG04P000007\nM30", (
            ("setup", "flat"), ("tool", "mill"), ("tool", "box"), ("rest", 0), ("rest", 100000), ("rest", 7)))

    def test_moves_go_on_as_the_last_one(self):
        self.assert_read("G1 X1\nY2\nTa\nZ-3\nG0\nX4\nM30", (
            ("cut", 0, 1000), ("cut", 1, 2000), ("tool", "a"), ("cut", 2, -3000), ("rapid", 0, 4000)))

    def test_axes_in_any_order(self):
        wanted = (("cut", 0, 1000), ("cut", 1, 2000), ("cut", 2, 3000))
        for words in ("X1 Y2 Z3", "Z3 Y2 X1", "Y2 Z3 X1", "Z3X1Y2"):
            self.assert_read(f"G1 {words}\nM30", wanted)
            self.assert_read(f"G1\n{words}\nM30", wanted)
        self.assert_read("G0 Z3 X1\nM30", (("rapid", 0, 1000), ("rapid", 2, 3000)))

    def test_moves_of_no_length(self):
        self.assert_read("G0 X0 Y0\nG91\nZ0\nM30", (("rapid", 0, 0), ("rapid", 1, 0), ("rapid", 2, 30000)), (0, 0, 30000))

    def test_places_and_ways(self):
        self.assert_read("G0 X1\nG91\nX1\nY-1 X1\nG90\nX1\nG91 (again)\nZ0.001\nM30", (
            ("rapid", 0, 1000), ("rapid", 0, 2000), ("rapid", 0, 3000), ("rapid", 1, 1000), ("rapid", 0, 1000),
            ("rapid", 2, 30001)), HOME)
        self.assert_read("G91\nG1 X1\nX-2\nM30", (("cut", 0, 2000), ("cut", 0, 0)), HOME)

    def test_pieces(self):
        piece = "Odent\nN5 G1 Z-1\nG0 Z1\nX1\nM99\n"
        dent = [("cut", 2, -1000), ("rapid", 2, 1000), ("rapid", 0, 1000)]
        self.assert_read(piece + "M30", ())
        self.assert_read(piece + "Cdent\nM30", tuple(dent))
        self.assert_read(piece + "Cdent L0\nM30", ())
        self.assert_read(piece + "Cdent L3\nCdentL1\nM30", tuple(dent * 4))
        self.assert_read(piece + "G91\nCdent L2\nM30", (
            ("cut", 2, -1000), ("rapid", 2, 0), ("rapid", 0, 1000), ("cut", 2, -1000), ("rapid", 2, 0), ("rapid", 0, 2000)))
        # A piece in a piece; what is told in it goes on behind it.
        self.assert_read(piece + "Orow\nCdent L2\nG91\nM99\nCrow\nX1\nM30", (*dent, *dent, ("rapid", 0, 2000)))
        self.assert_read("Oa\nG1\nM99\nG0\nCa\nX1\nM30", (("cut", 0, 1000),))
        self.assert_read("Oa\nTone\nM99\nOb\nTtwo\nCaL2\nM99\nOc\nCb L2\nM99\nCc\nCa\nM30", tuple(
            [("tool", name) for name in ("two", "one", "one") * 2 + ("one",)]))

    def test_a_piece_between_lines(self):
        self.assert_read("G1 X1\nOa\nX2\nM99\nX3\nCa\nM30", (("cut", 0, 1000), ("cut", 0, 3000), ("cut", 0, 2000)))

    def test_a_piece_with_no_g_ahead(self):
        self.assert_read("Oa\nX2\nM99\nG1\nCa\nM30", (("cut", 0, 2000),))

    def test_numbers_of_lines(self):
        self.assert_read("N0 G0 X1\nN5\nX2\nN7 (in) Y1\nN999999 M30", (("rapid", 0, 1000), ("rapid", 0, 2000), ("rapid", 1, 1000)))
        self.assert_read("N1 Oa\nN2 G1 X1\nN3 M99\nN4 Ca L2\nN5 M30", (("cut", 0, 1000),) * 2)

    def test_sums(self):
        lines = ["N10 Tmill", "G0 X1 (in) ", "", "(remark)", "M30", ""]
        text = "\n".join([f"{line}*{sum_of(line)}" for line in lines])
        self.assert_read(text, (("tool", "mill"), ("rapid", 0, 1000)))

    def test_drawn_codes(self):
        chance, longest = random.Random(1), 0
        for _ in range(600):
            course = Course(chance)
            text = course.text()
            self.assert_read(text, tuple(course.program), HOME)
            longest = max(longest, len(course.program))
        self.assertGreater(longest, 60)

    def test_many_blocks(self):
        self.assertEqual(len(read_code("Oa\nG0 X1 Y1\nM99\nCa L10000\nM30", HOME)), 20000)
        self.assertEqual(len(read_code("Ta\n" * 20000 + "M30", HOME)), 20000)

    def test_pieces_deep_in_one_another(self):
        lines = ["Oa0", "Ta", "M99"]
        for depth in range(1, 8000):
            lines.extend([f"Oa{depth}", f"Ca{depth - 1}", "M99"])
        self.assert_read("\n".join([*lines, "Ca7999", "M30"]), (("tool", "a"),))


class Wrong(unittest.TestCase):
    def assert_wrong(self, text, line, column):
        with self.assertRaises(BadText, msg=text) as caught:
            read_code(text, HOME)
        self.assertEqual((caught.exception.line, caught.exception.column), (line, column), text)

    def assert_wrong_somewhere(self, text):
        with self.assertRaises(BadText) as caught:
            read_code(text, HOME)
        self.assertGreaterEqual(min(caught.exception.line, caught.exception.column), 1)

    def test_no_string(self):
        for thing in (None, 5, b"M30", ["M30"], ("M30",), True):
            self.assert_wrong(thing, 0, 0)

    def test_words(self):
        self.assert_wrong("Tmill\nG1 Tmill?\nM30", 2, 9)
        self.assert_wrong("Tmill\n  ?\nM30", 2, 3)
        self.assert_wrong("Tmill\nTMILL\nM30", 2, 2)
        self.assert_wrong("Tmill\n G1 (X1\nM30", 2, 5)
        self.assert_wrong("Tmill\nG1 *5\nM30", 2, 4)
        self.assert_wrong("M30\n?", 2, 1)
        # A line is cut whole ahead of a look at its words; also in pieces that nobody calls.
        self.assert_wrong("X1 M5 Tmill ?\nM30", 1, 13)
        self.assert_wrong("Oa\nTmill\n?\nM99\nM30", 3, 1)
        self.assert_wrong("Oa\nTmill*5\nM99\nM30", 2, 6)
        # But line by line.
        self.assert_wrong("M5\n?\nM30", 1, 1)

    def test_numbers_that_are_not_greater(self):
        self.assert_wrong("N5 Ta\nN5 Ta\nM30", 2, 1)
        self.assert_wrong("N5 Ta\nTa\n  N4 Ta\nM30", 3, 3)
        self.assert_wrong("N5\nN10\nN5\nM30", 3, 1)
        self.assert_wrong("N1 Oa\nN1 Ta\nM99\nM30", 2, 1)
        self.assert_wrong("N1 Oa\nN9 Ta\nM99\nN9 M30", 4, 1)
        self.assert_wrong("N7\nN6 M5\nM30", 2, 1)

    def test_numbers_further_on(self):
        self.assert_wrong("N5 N6 Ta\nM30", 1, 4)
        self.assert_wrong("Ta N5\nM30", 1, 4)
        self.assert_wrong("G1 N5 X1\nM30", 1, 4)

    def test_words_that_cannot_stand_there(self):
        for line in ("L5", "P5", "G2", "G5", "G92", "G900", "M0", "M3", "M98", "M100", "M29", "M31", "G3 X1", "M4 P5",
                     "P4 P5", "L4 P5", "M90", "P91", "L90", "M0 X1", "P1 X1"):
            self.assert_wrong(f"{line}\nM30", 1, 1)
            self.assert_wrong(f"G0 X1\n  {line}\nM30", 2, 3)
            self.assert_wrong(f"N5 {line}\nM30", 1, 4)
        for word in ("Ta", "Sa", "G0", "G1", "G4", "G90", "G91", "M30", "M99", "Oa", "Ca", "L1", "P1", "N5", "X1", "G7"):
            for line in ("Ta", "Sa", "G90", "G91", "G4 P5"):
                self.assert_wrong(f"{line} {word}\nM30", 1, len(line) + 2)
            if word[0] not in "XYZ":
                for line in ("G0", "G1", "G1 X1", "G0 Z1 Y2", "G0\nX1"):
                    self.assert_wrong(f"{line} {word}\nM30", line.count("\n") + 1, len(line.split("\n")[-1]) + 2)

    def test_an_axis_told_twice(self):
        self.assert_wrong("G0 X1 X1\nM30", 1, 7)
        self.assert_wrong("G0\nX1 Y2 Z3 Y2\nM30", 2, 10)
        self.assert_wrong("G0\nZ1Z2 Ta\nM30", 2, 3)

    def test_lengths_with_no_g_ahead(self):
        for line in ("X1", "Y1 X1", "  Z1", "N5 X1"):
            self.assert_wrong(f"{line}\nM30", 1, min([line.find(letter) % 99 for letter in "XYZ"]) + 1)
        self.assert_wrong("G90\nG91\nG4 P5\nX1\nM30", 4, 1)
        self.assert_wrong("Oa\nX1\nG0\nM99\nCa\nM30", 2, 1)
        # One in a piece that isn't called is none.
        self.assert_wrong("Oa\nG0\nM99\nX1\nM30", 4, 1)
        self.assert_wrong("Oa\nG0\nM99\nCa L0\nX1\nM30", 5, 1)

    def test_rests(self):
        self.assert_wrong("G4\nM30", 1, 1)
        self.assert_wrong("  N5 G4 (in)\nM30", 1, 6)
        self.assert_wrong("G4 X1\nM30", 1, 4)
        self.assert_wrong("G4 L5\nM30", 1, 4)
        self.assert_wrong("G4 P100001\nM30", 1, 4)
        self.assert_wrong("G4 P999999\nM30", 1, 4)
        self.assert_wrong("G4 P5 P5\nM30", 1, 7)
        self.assert_wrong("G4 P100001 P5\nM30", 1, 4)

    def test_ends(self):
        self.assert_wrong("", 1, 1)
        self.assert_wrong("Ta", 1, 3)
        self.assert_wrong("Ta\n", 2, 1)
        self.assert_wrong("Ta\nG0 X1 (in)  ", 2, 13)
        self.assert_wrong("Oa\nTa\nM99", 3, 4)
        self.assert_wrong("Oa\nTa", 2, 3)
        self.assert_wrong("Oa", 1, 3)
        for words, column in (("Ta", 1), (" M30", 2), ("N99", 1), ("N1 X1", 1), ("(in)G0", 5), ("Oa", 1), ("L5", 1)):
            self.assert_wrong(f"N5 M30\n\n{words}", 3, column)
        for word in ("Ta", "M30", "X1", "L1", "N7"):
            self.assert_wrong(f"M30 {word}", 1, 5)

    def test_pieces_where_none_may_begin_or_end(self):
        self.assert_wrong("Oa\nTa\n Ob\nM99\nM30", 3, 2)
        self.assert_wrong("Oa\nOa\nM99\nM30", 2, 1)
        self.assert_wrong("Oa\nM99\nOa\nM99\nM30", 3, 1)
        self.assert_wrong("M99\nM30", 1, 1)
        self.assert_wrong("Oa\nM99\nN5 M99\nM30", 3, 4)
        self.assert_wrong("Oa\nTa\nN3 M30\nM99\nM30", 3, 4)
        self.assert_wrong("Oa\nM30", 2, 1)
        self.assert_wrong("Oa Ta\nM99\nM30", 1, 4)
        self.assert_wrong("Oa\nM99 Ta\nM30", 2, 5)

    def test_calls_of_pieces_not_told(self):
        self.assert_wrong("Ca\nM30", 1, 1)
        self.assert_wrong("Ca\nOa\nM99\nM30", 1, 1)
        self.assert_wrong("Oa\nTa\nCa\nM99\nM30", 3, 1)
        self.assert_wrong("Oa\nN5 Cb\nM99\nOb\nM99\nM30", 2, 4)
        self.assert_wrong("Oa\nM99\nCb\nM30", 3, 1)
        self.assert_wrong("Oa\nCb L0\nM99\nM30", 2, 1)

    def test_calls(self):
        begin = "Oa\nTa\nM99\n"
        for line, column in (("Ca X1", 4), ("Ca L1 L1", 7), ("Ca P1", 4), ("Ca Ca", 4), ("Ca L1 Ta", 7), ("L1 Ca", 1), ("G0 Ca", 4)):
            self.assert_wrong(f"{begin}{line}\nM30", 4, column)

    def test_lines_of_pieces_are_looked_at_when_they_are_called(self):
        for line, column in (("X1 X2", 4), ("G4", 1), ("G4 P100001", 4), ("Ta Tb", 4), ("G7", 1), ("M5", 1), ("L5", 1), ("P1", 1),
                             ("N7 N8", 4)):
            piece = f"G0\nOa\nTa\n{line}\nM99\n"
            self.assertEqual(read_code(piece + "M30", HOME), ())
            self.assert_wrong(piece + "Tb\nCa\nM30", 4, column)
            self.assert_wrong(piece + "Ob\nTb\nCa\nM99\nCb L2\n?\nM30", 4, column)
            self.assertEqual(read_code(piece + "Ob\nTb\nCa\nM99\nTb\nM30", HOME), (("tool", "b"),))
            # What is wrong ahead of the call is told first, and what is wrong behind it is not.
            self.assert_wrong(piece + "M5\nCa\nM30", 6, 1)
            self.assert_wrong(piece + "Ca\nM5\nM30", 4, column)

    def test_too_many_blocks(self):
        self.assert_wrong_somewhere("Ta\n" * 20001 + "M30")
        self.assert_wrong_somewhere("Oa\nG0 X1 Y1\nM99\nTa\nCa L10000\nM30")
        self.assert_wrong_somewhere("Oa\nG0 X1 Y1\nM99\nCa L10001\nM30")

    def test_too_many_calls(self):
        self.assert_wrong_somewhere("Oa\nM99\nCa L999999\nM30")
        self.assert_wrong_somewhere("Oa\nG90\nM99\nCa L25001\nM30")
        self.assertEqual(read_code("Oa\nG90\nM99\nCa L25000\nM30", HOME), ())
        self.assertEqual(read_code("Oa\nM99\nCa L50000\nM30", HOME), ())
        self.assert_wrong_somewhere("Oa\nM99\nCa L50001\nM30")
        self.assert_wrong_somewhere("Oa\nM99\nCa L30000\nCa L30000\nM30")
        lines = ["Oa0", "M99"]
        for depth in range(1, 40):
            lines.extend([f"Oa{depth}", f"Ca{depth - 1} L2", "M99"])
        self.assert_wrong_somewhere("\n".join([*lines, "Ca39", "M30"]))
        self.assertEqual(read_code("\n".join([*lines, "Ca9", "M30"]), HOME), ())


if __name__ == "__main__":
    unittest.main()
