"""Promises 7, 8 and 9: pieces, numbers and shapes in texts."""

import random
import unittest

from cubes import random_solid
from shopwhole.errors import BadText
from shopwhole.jobtexts import read_solid, solid_text
from shopwhole.solids import box, boxes_of, less, meet, mirrored, moved, union, union_of, volume
from shopwhole.turns import turned

CUBE = box((0, 0, 0), (1000, 1000, 1000))
OWN_WORDS = """let shape box to at mirror array by turn cut keep x y z stock part allowance machine from home rapid change
clamp tool rate cutter holder setup fixture""".split()


class Texts(unittest.TestCase):
    def assert_wrong(self, text, line, column):
        with self.assertRaises(BadText, msg=text) as caught:
            read_solid(text)
        self.assertEqual((caught.exception.line, caught.exception.column), (line, column), text)

    def assert_wrong_number(self, text, start, end):
        """Wrong within a number from a column to another one."""
        with self.assertRaises(BadText, msg=text) as caught:
            read_solid(text)
        self.assertEqual(caught.exception.line, 1)
        self.assertIn(caught.exception.column, range(start, end + 1), text)

    def width(self, told, ahead=""):
        """The thousandths that a sum tells, as the width of a box, or its negative."""
        solid = read_solid(ahead + "{ box 0,0,0 to " + told + ",1,1 }")
        (corner, other), = boxes_of(solid)
        return other[0] if corner[0] == 0 else corner[0]


class Pieces(Texts):
    def test_no_string(self):
        for thing in (None, 5, b"{ }", ["{ }"], ("{", "}"), True):
            self.assert_wrong(thing, 0, 0)

    def test_blanks_and_remarks_count_as_nothing(self):
        wanted = box((0, 0, 0), (1000, 2000, 3000))
        for text in ("{box 0,0,0 to 1,2,3}", "  {   box 0 , 0 , 0   to 1,2,3   }  ", "{ # a { remark } \u00e4\t\r\n"
                     "box 0,0,0 to 1,2,3 # 1 2 3\n # again\n}", "\n\n # nothing\n{box 0,0,0 to 1,2,3}\n\n   \n# end",
                     "{box 0,0,0 to 1,2,3}#", "{\n\n\nbox 0,0,0 to 1,2,3\n\n\n}\n"):
            self.assertEqual(read_solid(text), wanted, text)

    def test_signs_that_begin_no_piece(self):
        for sign in ("\t", "\r", "A", "Z", ".", ";", "[", "\u00e4", "\u0661", "%", "!", "\"", "\\", "\x00", "\u2028"):
            self.assert_wrong("{ " + sign + " }", 1, 3)
            self.assert_wrong(sign, 1, 1)
            self.assert_wrong("{\n box 0,0,0 to 1,1,1 " + sign + "\n}", 2, 21)
        self.assert_wrong("{ }\r\n", 1, 4)

    def test_a_sign_without_a_meaning(self):
        self.assert_wrong("{ : }", 1, 3)
        self.assert_wrong(":", 1, 1)
        self.assert_wrong("let a = 1 : 2", 1, 11)

    def test_words(self):
        for word in ("a", "_", "_1", "a1_", "boxes", "x1", "xy", "lets", "a" * 40):
            self.assertEqual(read_solid(f"shape {word} {{ box 0,0,0 to 1,1,1 }}\n{{ {word} }}"), CUBE)
        self.assert_wrong("shape 1a { }\n{ }", 1, 7)
        self.assert_wrong("shape aB { }\n{ }", 1, 8)

    def test_own_words_are_no_names(self):
        for word in OWN_WORDS:
            self.assert_wrong(f"let {word} = 1\n{{ }}", 1, 5)
            self.assert_wrong(f"shape {word} {{ }}\n{{ }}", 1, 7)
            self.assert_wrong(f"let a = {word}\n{{ }}", 1, 9)

    def test_numbers(self):
        for number, wanted in (("1", 1000), ("0.001", 1), ("999999.999", 999999999), ("0.5", 500), ("10", 10000),
                               ("1.25", 1250), ("123456", 123456000), ("100.010", 100010)):
            self.assertEqual(self.width(number), wanted, number)

    def test_wrong_numbers(self):
        for number in ("1234567", "00", "01", "01.5", "1.2345", "0.0000", "000001"):
            self.assert_wrong_number(f"let a = {number}", 9, 8 + len(number))
        for number in ("1a", "1_", "1.", "1..2", "1.a", "1.2.3", "1.5x", "12x", "0x1", "1A", "1.2Z"):
            self.assert_wrong(f"let a = {number}", 1, 9)
            self.assert_wrong(f"let a = {number} + 1", 1, 9)
        self.assert_wrong("let a = .5", 1, 9)
        self.assert_wrong("let a = 1 .5", 1, 11)


class Numbers(Texts):
    def test_each_sign(self):
        for told, wanted in (("1 + 2", 3000), ("5 - 2", 3000), ("2 * 3", 6000), ("1 / 8", 125), ("-3", -3000),
                             ("- - 3", 3000), ("1 - 2 - 3", -4000), ("12 / 2 / 3", 2000), ("12 / (2 / 3)", 18000),
                             ("1 + 2 * 3", 7000), ("(1 + 2) * 3", 9000), ("2 * -3", -6000), ("1 - -1", 2000),
                             ("1 / 3 * 3", 1000), ("1 / 3 + 2 / 3", 1000), ("-(1 + 2) / 4", -750), ("6 / -4", -1500),
                             ("((((1))))", 1000), ("8/2*3", 12000), ("1/1000", 1), ("0.001 * 5", 5)):
            self.assertEqual(self.width(told), wanted, told)

    def test_numbers_by_names(self):
        ahead = "let a = 1 / 3\nlet b = a + a\n\nlet long_name_2 = -b * 3\n"
        self.assertEqual(self.width("a * 3", ahead), 1000)
        self.assertEqual(self.width("long_name_2 / a", ahead), -6000)
        self.assertEqual(self.width("3 * b", "# told\n" + ahead), 2000)

    def test_names_that_tell_no_number(self):
        self.assert_wrong("let a = b", 1, 9)
        self.assert_wrong("let a = a", 1, 9)
        self.assert_wrong("let a = 1 +\nb", 1, 12)
        self.assert_wrong("shape s { }\nlet a = 1 * s", 2, 13)
        self.assert_wrong("{ box 0,0,0 to w,1,1 }\nlet w = 1", 1, 16)

    def test_no_name_is_told_twice(self):
        self.assert_wrong("let a = 1\nlet a = 1", 2, 5)
        self.assert_wrong("shape a { }\nlet a = 1", 2, 5)
        self.assert_wrong("let a = 1\nshape a { }", 2, 7)
        self.assert_wrong("shape a { }\nshape a { }", 2, 7)

    def test_what_goes_on_wrong(self):
        for text, column in (("let", 4), ("let a", 6), ("let a 1", 7), ("let a =", 8), ("let a = +1", 9),
                             ("let a = 1 2", 11), ("let a = 1 +", 12), ("let a = 1 + * 2", 13), ("let a = (1", 11),
                             ("let a = (1 2)", 12), ("let a = ()", 10), ("let a = 1)", 10), ("let a = 1,2", 10),
                             ("let a = 1 let b = 2", 11), ("let a = (1 # )", 15), ("let = 1", 5),
                             ("let a = 1 { }", 11), ("let a == 1", 8)):
            self.assert_wrong(text, 1, column)
            self.assert_wrong("\n" + text, 2, column)
        self.assert_wrong("let a = (1\n+ 2)", 1, 11)

    def test_lengths_that_are_no_whole_thousandths(self):
        self.assert_wrong("{ box 0,0,0 to 1/3,1,1 }", 1, 16)
        self.assert_wrong("{ box 0.001/2,0,0 to 1,1,1 }", 1, 7)
        self.assert_wrong("{ box 0,2 + 1/7 - 0.001,0 to 1,1,1 }", 1, 9)
        self.assert_wrong("let a = 1/3\n{ box 0,0, a to 1,1,1 }", 2, 12)
        self.assert_wrong("{ at 0,(1/3),0 { } }", 1, 8)
        self.assert_wrong("{ mirror x at 1/3 { } }", 1, 15)
        self.assert_wrong("{ array 2 by 1,1,1/9 { } }", 1, 18)
        self.assertEqual(read_solid("let a = 1/3\n{ }"), ())

    def test_counts(self):
        self.assertEqual(volume(read_solid("{ array 100/2 by 2,0,0 { box 0,0,0 to 1,1,1 } }")), 50 * 10 ** 9)
        self.assertEqual(read_solid("{ array 1 by 2,0,0 { box 0,0,0 to 1,1,1 } }"), CUBE)
        self.assertEqual(read_solid("{ turn 2 - 2 { box 0,0,0 to 1,1,1 } }"), CUBE)
        self.assertEqual(volume(read_solid("{ array 6 / -2 * 2 / -3 by 2,0,0 { box 0,0,0 to 1,1,1 } }")), 2 * 10 ** 9)
        for count in ("0", "51", "2.5", "1/3", "-1", "25 + 26", "(51)"):
            self.assert_wrong("{ array " + count + " by 2,0,0 { } }", 1, 9)
        for count in ("24", "-1", "0.5", "100", "12 * 2"):
            self.assert_wrong("{ turn " + count + " { } }", 1, 8)

    def test_fractions_of_great_numbers(self):
        most = "let a = 999999 * 999999 + 999999 + 999999"
        self.assertEqual(read_solid(most + "\n{ }"), ())
        self.assert_wrong(most + " + 1 + 1", 1, 9)
        self.assert_wrong("let a = 1 + 999999 * 999999 * 2", 1, 13)
        self.assert_wrong("let a = 1 + 999999 * 999999 * 2 / 2", 1, 13)
        self.assert_wrong("let a = (1000 * 1000 * 1000 * 1000) - 1 + 2", 1, 9)
        self.assert_wrong("let a = 1 * (2 - 1000 * 1000 * 1000 * 1000 * 2)", 1, 18)
        self.assert_wrong("let a = -1000 * 1000 * 1000 * 1001", 1, 9)
        self.assert_wrong("let a = 5 + 1 / 1000 / 1000 / 1000 / 1001", 1, 13)
        self.assert_wrong("let a = 1 / 999999 + 1 / 999998 + 1 / 999997", 1, 9)
        self.assert_wrong("let a = 1 / -1000 / 1000 / 1000 / 1001", 1, 9)
        self.assert_wrong("let a = 2 * 3 + (1000 * 1000 * 1000 * 1000 + 1)", 1, 18)
        for good in ("1000 * 1000 * 1000 * 1000", "-1000 * 1000 * 1000 * 1000", "1 / 1000 / 1000 / 1000 / 1000",
                     "3 / 1000 / 1000 / 1000 / 1000 / 3", "1000 * 1000 * 1000 * 1000 - 1", "1 / 999999 + 1 / 999998",
                     "2 / 1000 / 1000 / 1000 / 2000"):
            self.assertEqual(read_solid(f"let a = {good}\n{{ }}"), ())

    def test_division_by_nothing(self):
        self.assert_wrong("let a = 1 / 0", 1, 13)
        self.assert_wrong("let a = 2 + 3 * 1 / (1 - 1)", 1, 21)
        self.assert_wrong("let a = 0\nlet b = 1 / - a", 2, 13)
        self.assert_wrong("let a = 0 / 0.000", 1, 13)
        self.assertEqual(read_solid("let a = 0 / 5\n{ }"), ())


class Shapes(Texts):
    def test_box(self):
        wanted = box((-1000, 2000, 3000), (4000, 5500, 6000))
        for text in ("{ box -1,2,3 to 4,5.5,6 }", "{ box 4,5.5,6 to -1,2,3 }", "{ box -1,5.5,3 to 4,2,6 }",
                     "{ box 4,2,6 to -1,5.5,3 }"):
            self.assertEqual(read_solid(text), wanted)

    def test_boxes_that_are_not_wide(self):
        self.assert_wrong("{ box 1,2,3 to 1,5,6 }", 1, 16)
        self.assert_wrong("{ box 1,2,3 to 0,2,6 }", 1, 16)
        self.assert_wrong("{ box 1,2,3 to 0,0,2 + 1 }", 1, 16)
        self.assert_wrong("{\ncut box 1,2,3 to (1),2,3 }", 2, 18)

    def test_each_shape(self):
        foot = union(box((0, 0, 0), (3000, 1000, 1000)), box((0, 0, 1000), (1000, 2000, 2000)))
        ahead = "shape foot {\n box 0,0,0 to 3,1,1\n box 0,0,1 to 1,2,2\n}\n"
        self.assertEqual(read_solid(ahead + "{ foot }"), foot)
        self.assertEqual(read_solid(ahead + "{ at 1,-2,0.5 { foot } }"), moved(foot, (1000, -2000, 500)))
        for axis, word in enumerate("xyz"):
            by = [0, 0, 0]
            by[axis] = -1000
            wanted = union(foot, moved(mirrored(foot, axis), by))
            self.assertEqual(read_solid(ahead + f"{{ mirror {word} at -0.5 {{ foot }} }}"), wanted)
        wanted = union_of([moved(foot, (2000 * k, 0, -1000 * k)) for k in range(4)])
        self.assertEqual(read_solid(ahead + "{ array 4 by 2,0,-1 { foot } }"), wanted)
        self.assertEqual(read_solid(ahead + "{ array 50 by 0,0,0 { foot } }"), foot)
        for turn in range(24):
            self.assertEqual(read_solid(ahead + f"{{ turn {turn} {{ foot }} }}"), turned(foot, turn))

    def test_sums_cuts_and_keeps_in_their_order(self):
        a, b = box((0, 0, 0), (4000, 4000, 4000)), box((2000, 2000, 2000), (6000, 6000, 6000))
        ahead = "shape a { box 0,0,0 to 4,4,4 }\nshape b { box 2,2,2 to 6,6,6 }\n"
        for group, wanted in (("a\nb", union(a, b)), ("a\ncut b", less(a, b)), ("a\nkeep b", meet(a, b)),
                              ("cut b\na", a), ("keep a", ()), ("a\ncut b\nb", union(a, b)), ("", ()), ("a\ncut a", ()),
                              ("a\nb\ncut b\nkeep at 0,0,0 { a }", less(a, b)),
                              ("a\ncut at 2,2,2 { box 0,0,0 to 4,4,4 }", less(a, b))):
            self.assertEqual(read_solid(ahead + "{ " + group + " }"), wanted)
            self.assertEqual(read_solid(ahead + "{\n\n" + group.replace("\n", "\n\n # more\n") + "\n\n}\n"), wanted)

    def test_groups_within_groups(self):
        text = """shape pin { at 1,0,0 { at 0,1,0 {
            box 0,0,0 to 1,1,1 } } }
        shape row { array 2 by 2,0,0 { pin } }
        { array 2 by 0,2,0 { row
            cut at 2,0,0 { pin }
          }
        }"""
        self.assertEqual(read_solid(text), union(box((1000, 1000, 0), (2000, 2000, 1000)),
                                                 box((1000, 3000, 0), (2000, 4000, 1000))))

    def test_what_goes_on_wrong(self):
        for text, line, column in (
                ("", 1, 1), ("\n", 2, 1), ("  # no", 1, 7), ("let a = 1", 1, 10), ("let a = 1\n", 2, 1), ("{", 1, 2),
                ("{ ", 1, 3), ("{ # a\n", 2, 1), ("{ } }", 1, 5), ("{ } { }", 1, 5), ("{ }\n{ }", 2, 1),
                ("{ }\nlet a = 1", 2, 1), ("{ } let a = 1", 1, 5), ("box 0,0,0 to 1,1,1", 1, 1), ("}", 1, 1),
                ("{ box }", 1, 7), ("{ box 0 0,0 to 1,1,1 }", 1, 9), ("{ box 0,0 to 1,1,1 }", 1, 11),
                ("{ box 0,0,0 }", 1, 13), ("{ box 0,0,0 at 1,1,1 }", 1, 13), ("{ box 0,0,0 to 1,1 }", 1, 20),
                ("{ box 0,0,0,0 to 1,1 }", 1, 12), ("{ box 0,0,0\n to 1,1,1 }", 1, 12),
                ("{ box 0,0,0 to 1,1,1 box 0,0,0 to 2,2,2 }", 1, 22), ("{ box 0,0,0 to 1,1,1, }", 1, 21),
                ("{ at 1,1,1 }", 1, 12), ("{ at 1,1,1\n{ } }", 1, 11), ("{ at 1,1 { } }", 1, 10),
                ("{ at { } }", 1, 6), ("{ mirror a at 0 { } }", 1, 10), ("{ mirror x 0 { } }", 1, 12),
                ("{ mirror x at { } }", 1, 15), ("{ mirror at x 0 { } }", 1, 10), ("{ mirror x at 0 }", 1, 17),
                ("{ array 2 2,0,0 { } }", 1, 11), ("{ array by 2,0,0 { } }", 1, 9), ("{ array 2 by 2,0 { } }", 1, 18),
                ("{ array 2 by 2,0,0 }", 1, 20), ("{ turn { } }", 1, 8), ("{ turn 1 }", 1, 10), ("{ foot }", 1, 3),
                ("{ cut }", 1, 7), ("{ cut cut }", 1, 7), ("{ keep\n}", 1, 7), ("{ cut foot }", 1, 7),
                ("{ let a = 1 }", 1, 3), ("{ shape a { } }", 1, 3), ("{ { } }", 1, 3), ("{ 5 }", 1, 3),
                ("{ stock { } }", 1, 3), ("{ to }", 1, 3), ("shape", 1, 6), ("shape a", 1, 8), ("shape a\n{ }", 1, 8),
                ("shape a { } { }", 1, 13), ("shape a { a }", 1, 11), ("shape a box 0,0,0 to 1,1,1", 1, 9),
                ("let a = 1\n{ a }", 2, 3), ("{ box 0,0,0 to 1,1,1\n cut }", 2, 6), ("stock { }", 1, 1),
                ("{ } # }\n\n }", 3, 2), ("{\n box 0,0,0 to 1,1,1 # here\n", 3, 1), ("{\n box 0,0,0 to 1,1,", 2, 19)):
            self.assert_wrong(text, line, column)

    def test_the_first_wrong_piece_is_told(self):
        self.assert_wrong("{ box 0,0,0 to 1/3,1,1 \t }", 1, 16)
        self.assert_wrong("{ foot\n \t }", 1, 3)
        self.assert_wrong("{ turn 99 { $ } }", 1, 8)

    def test_too_many_boxes(self):
        rows = "shape r { array 50 by 2,0,0 { box 0,0,0 to 1,1,1 } }\n"
        plane = rows + "shape p { array 50 by 0,2,0 { r } }\nshape q { array 10 by 0,2,0 { r } }\n"
        self.assertEqual(len(boxes_of(read_solid(plane + "{ p\nat 0,100,0 { q } }"))), 3000)
        self.assert_wrong(plane + "{ p\nat 0,100,0 { q }\nat 0,0,2 { box 0,0,0 to 1,1,1 }\n}", 6, 1)
        self.assert_wrong(plane + "{ p\n box 200,0,0 to 200.001,1,1\n\tat 0,0,0 { } }", 6, 1)
        self.assert_wrong(plane + "{ array 2 by 0,0,2 { p } }", 4, 3)
        self.assert_wrong(plane + "{ cut array 50 by 0,0,1 { array 2 by 0,100,0.5 { p } } }", 4, 27)
        self.assert_wrong(plane + "{\n cut array 2 by 0,0,2 { p } }", 5, 6)
        self.assert_wrong(plane + "{\n keep mirror z at 5 { array 2 by 0,0,2 { p } } }", 5, 23)
        self.assert_wrong(plane + "{\n box 0,0,0 to 100,100,2\n  cut p\n cut at 1,1,1 { p } }", 7, 2)
        # A mirrored group may be more, if what is made with it is not.
        self.assertEqual(read_solid(plane + "{ cut mirror z at 5 { p } }"), ())
        self.assert_wrong(plane + "{ mirror z at 5 { p } }", 4, 3)

    def test_too_far_off(self):
        edge = box((0, 0, 0), (999999999, 1000, 1000))
        self.assertEqual(read_solid("{ box 0,0,0 to 999999.999,1,1 }"), edge)
        self.assertEqual(read_solid("{ box 0,0,0 to -999999.999,1,1 }"), mirrored(edge, 0))
        self.assert_wrong("{ box 0,0,0 to 999999.999 + 0.001,1,1 }", 1, 3)
        self.assert_wrong("{ box 0,0,0 to 1,-999999.999 - 0.001,1 }", 1, 3)
        self.assert_wrong("{ at 0,0,1 { box 0,0,0 to 1,1,999999 } }", 1, 3)
        self.assert_wrong("{\n at 0,0,1 { box 0,0,0 to 1,1,1000 * 1000 } }", 2, 13)
        self.assert_wrong("{ array 3 by 500000,0,0 { box 0,0,0 to 1,1,1 } }", 1, 3)
        self.assert_wrong("{ cut array 3 by 500000,0,0 { box 0,0,0 to 1,1,1 } }", 1, 7)
        self.assert_wrong("shape a { mirror x at 600000 { box 0,0,0 to 1,1,1 } }", 1, 11)
        # What is taken off, or kept, may lie anywhere: what is made with it is not beyond.
        self.assertEqual(read_solid("{ box 0,0,0 to 2,1,1\n cut at 1000 * 1000,0,0 { box -1,0,0 to 5,1,1 }\n"
                                    " cut at 1000 * 1000,0,0 { box 1 - 999999,0,0 to 5,1,1 } }"),
                         box((0, 0, 0), (2000, 1000, 1000)))
        self.assertEqual(read_solid("{ box 0,0,0 to 5,1,1\n keep at 999999,0,0 { box -999999,0,0 to 2,1,1 } }"),
                         box((0, 0, 0), (5000, 1000, 1000)))

    def test_factors_within_one_another(self):
        self.assertEqual(self.width("(" * 18 + "1" + ")" * 18), 1000)
        self.assert_wrong("let a = " + "(" * 20 + "1" + ")" * 20, 1, 29)
        self.assertEqual(read_solid("let a = " + "(" * 19 + "1" + ")" * 19 + "\n{ }"), ())
        self.assertEqual(read_solid("let a = " + "-" * 19 + "1\n{ }"), ())
        self.assert_wrong("let a = " + "-" * 20 + "1", 1, 29)
        self.assert_wrong("let a = " + "-(" * 10 + "1" + ")" * 10, 1, 29)
        self.assert_wrong("let a = 1 + " + "(" * 40, 1, 33)
        self.assert_wrong("{ box 0,0," + "(" * 19 + "1" + ")" * 19 + " to 1,1,1 }", 1, 30)

    def test_braces_within_one_another(self):
        def nested(many, inside):
            return "{ " + "at 0,0,0 { " * (many - 1) + inside + " }" * many
        self.assertEqual(read_solid(nested(20, "")), ())
        self.assertEqual(read_solid("shape s { box 0,0,0 to 1,1,1 }\n" + nested(20, "s")), CUBE)
        self.assertEqual(read_solid(nested(19, "box 0,0,0 to 1,1,1")), CUBE)
        # In 20 braces no factor may stand, and so no brace either: each one has a factor ahead of it.
        self.assert_wrong(nested(20, "box 0,0,0 to 1,1,1"), 1, 2 + 11 * 19 + 5)
        self.assert_wrong(nested(21, ""), 1, 2 + 11 * 19 + 4)
        self.assert_wrong(nested(19, "turn 0 {\nturn 0 {\n} }"), 2, 6)

    def test_braces_and_factors_are_counted_together(self):
        text = "{ " + "at 0,0,0 { " * 9 + "box 0,0," + "(" * 9 + "0" + ")" * 9 + " to 1,1,1" + " }" * 10
        self.assertEqual(read_solid(text), CUBE)
        text = "{ " + "at 0,0,0 { " * 9 + "box 0,0," + "(" * 10 + "0" + ")" * 10 + " to 1,1,1" + " }" * 10
        self.assert_wrong(text, 1, 2 + 11 * 9 + 8 + 10 + 1)

    def test_solid_text(self):
        chance = random.Random(7)
        self.assertEqual(read_solid(solid_text(())), ())
        for _ in range(100):
            solid, _ = random_solid(chance, -3, 5, 7)
            self.assertEqual(read_solid(solid_text(solid)), solid)
            factor = chance.choice((7, 499, 12345678))
            larger = union_of([box(tuple(factor * k for k in low), tuple(factor * k for k in high))
                               for low, high in boxes_of(solid)])
            self.assertEqual(read_solid(solid_text(larger)), larger)
        far = 999999999
        solid = union(box((-far, -far, -far), (-far + 1, 1, 100)), box((0, 0, 0), (far, far, far)))
        self.assertEqual(read_solid(solid_text(solid)), solid)

    def test_a_text_of_3000_boxes(self):
        solid = union_of([box((3 * k, 0, k % 7), (3 * k + 1, 1, k % 7 + 1)) for k in range(3000)])
        self.assertEqual(len(boxes_of(solid)), 3000)
        self.assertEqual(read_solid(solid_text(solid)), solid)


if __name__ == "__main__":
    unittest.main()
