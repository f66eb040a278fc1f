"""Promise 26: the words of a machine's code, and the sums of its lines."""

import random
import unittest

from shopwhole.codewords import sum_of, words_of
from shopwhole.errors import BadText
from shopwhole.words import OWN_WORDS

SIGNS = [" ", *"0123456789", *"abcdefghijklmnopqrstuvwxyz", "_", *"CGLMNOPSTXYZ", ".", "-", "*", "(", ")"]


def own_sum(line):
    total = 0
    for place in range(len(line)):
        if line[place] in SIGNS:
            total += (place + 1) * (SIGNS.index(line[place]) + 1)
    return total % 97


class Sums(unittest.TestCase):
    def test_lines_by_hand(self):
        self.assertEqual(sum_of("N10 Tmill"), 96)
        self.assertEqual(sum_of(""), 0)
        self.assertEqual(sum_of(" "), 1)
        self.assertEqual(sum_of("0"), 2)
        self.assertEqual(sum_of("_"), 38)
        self.assertEqual(sum_of("C"), 39)
        self.assertEqual(sum_of(")"), 55)
        self.assertEqual(sum_of("  "), 3)
        self.assertEqual(sum_of("a."), (12 + 2 * 51) % 97)

    def test_signs_that_are_not_in_the_row_count_nothing(self):
        for sign in "ABDEFHIJKQRUVW,;:#+/\\\t\"'!?[]{}=<>&@~^`|$\r\u00e4\u20ac":
            self.assertEqual(sum_of(sign), 0, sign)
            self.assertEqual(sum_of("a" + sign + "a"), (12 + 3 * 12) % 97, sign)
        for sign in "CGLMNOPSTXYZ":
            self.assertNotEqual(sum_of(sign), 0)

    def test_drawn_lines(self):
        chance = random.Random(1)
        for _ in range(500):
            line = "".join([chance.choice(" 0123456789abz_ACGILMNOPSTXYZ.-*()#,") for _ in range(chance.randint(0, 60))])
            self.assertEqual(sum_of(line), own_sum(line), line)


class Words(unittest.TestCase):
    def assert_wrong(self, line, column):
        for number in (1, 7):
            with self.assertRaises(BadText, msg=line) as caught:
                words_of(line, number)
            self.assertEqual((caught.exception.line, caught.exception.column), (number, column), line)

    def assert_wrong_within(self, line, low, high):
        """Wrong, at one of some columns."""
        with self.assertRaises(BadText, msg=line) as caught:
            words_of(line, 3)
        self.assertEqual(caught.exception.line, 3)
        self.assertTrue(low <= caught.exception.column <= high, (line, caught.exception.column))

    def assert_words(self, line, words):
        self.assertEqual(words_of(line, 1), words, line)
        total = sum_of(line)
        self.assertEqual(words_of(f"{line}*{total}", 1), words, line)
        for other in range(97):
            if other != total:
                self.assert_wrong(f"{line}*{other}", len(line) + 1)

    def test_the_document_s_line(self):
        self.assert_words("G1 X1.5 (in) Tmill", [("G", 1, 1), ("X", 1500, 4), ("T", "mill", 14)])

    def test_lengths(self):
        for text, length in (("0", 0), ("1", 1000), ("-1", -1000), ("-0", 0), ("007", 7000), ("999999", 999999000),
                             ("-999999.999", -999999999), ("0.5", 500), ("0.05", 50), ("0.050", 50), ("12.34", 12340),
                             ("000000.000", 0), ("-0.001", -1)):
            for letter in "XYZ":
                self.assert_words(letter + text, [(letter, length, 1)])

    def test_wrong_lengths(self):
        for text in ("", "-", ".", ".5", "-.5", "1.", "-1.", "1.2345", "1234567", "-1234567", "1234567.1", "--1", "+1", " 1",
                     "- 1", "1 .5", "1,5", "1.-5", "1..5", "a", "0x1", "(in)1", "1e3", "1_0"):
            for letter in "XYZ":
                self.assert_wrong_within("G1 " + letter + text, 4, 5 + len(text))

    def test_numbers(self):
        for letter in "NGMLP":
            for text, number in (("0", 0), ("1", 1), ("999999", 999999), ("000001", 1), ("01", 1)):
                self.assert_words(letter + text, [(letter, number, 1)])
            for text in ("", "-1", "1234567", "1.5", "1.", "+1", " 1", "a", "_1", "X1"):
                self.assert_wrong_within(letter + text, 1, 2 + len(text))

    def test_names(self):
        for letter in "TSOC":
            for name in ("a", "z9_", "mill", "abcdefghijkl", "a___________", *OWN_WORDS):
                self.assert_words(letter + name, [(letter, name, 1)])
            for name in ("", "9a", "_a", "Mill", "MILL", "abcdefghijklm", "a" * 40, " mill", "-a", "(a)b", "9", "X1", "."):
                self.assert_wrong(letter + name, 2)
                self.assert_wrong("G1 X0.5 " + letter + name + " G1", 10)
            # The name ends where a sign stands that is in none.
            self.assert_words(letter + "aX1", [(letter, "a", 1), ("X", 1000, 3)])
            self.assert_wrong(letter + "aB", 3)
            self.assert_wrong(letter + "a.b", 3)

    def test_signs_that_begin_no_word(self):
        for sign in "abcz019_ABDEFHIJKQRUVW.-),;:#+/=\t\r\"%[]{}\u00e4":
            self.assert_wrong(sign, 1)
            self.assert_wrong("  " + sign, 3)
            self.assert_wrong("G1 X1 " + sign + " Y2", 7)
        self.assert_wrong("G1 x1", 4)
        self.assert_wrong("(in) ) G1", 6)

    def test_blanks_and_remarks(self):
        self.assert_words("", [])
        self.assert_words("    ", [])
        self.assert_words("()", [])
        self.assert_words("(a remark, even with * and ( and \u00e4 in it)", [])
        self.assert_words("G1X1Y-2.5Z0TaSb", [("G", 1, 1), ("X", 1000, 3), ("Y", -2500, 5), ("Z", 0, 10), ("T", "a", 12),
                                              ("S", "b", 14)])
        self.assert_words("  G1(one)(two)  X1 () Y2(end) ", [("G", 1, 3), ("X", 1000, 17), ("Y", 2000, 23)])

    def test_remarks_without_an_end(self):
        self.assert_wrong("(", 1)
        self.assert_wrong("G1 (in X1", 4)
        self.assert_wrong("G1 (in) X1 (in*5", 12)
        self.assert_wrong("() (", 4)

    def test_sums(self):
        self.assert_words("G1 X1 ", [("G", 1, 1), ("X", 1000, 4)])
        for line in ("", " ", "G1", "(remark)", "Tmill  "):
            total = sum_of(line)
            for behind in (" ", "*", "X1", ".", "(in)", f"*{total}"):
                self.assert_wrong_within(f"{line}*{total}{behind}", len(line) + 1, len(line) + 9)
            for told in ("", " ", "-1", "a", f" {total}", str(total + 97), f"-{total}"):
                self.assert_wrong(f"{line}*{told}", len(line) + 1)
        # One in a remark is none.
        self.assert_words("(*1)", [])
        # What is wrong ahead of it is told first.
        self.assert_wrong("G1 ?*5", 4)


if __name__ == "__main__":
    unittest.main()
