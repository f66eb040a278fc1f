"""Promise 28: programs written as codes."""

import random
import unittest

from shop import JOB, PROGRAM
from shopwhole.codereader import read_code
from shopwhole.codewords import sum_of
from shopwhole.codewriter import code_text, relative_text
from shopwhole.words import OWN_WORDS

FARTHEST = 999999998


def drawn_block(chance, at, far):
    """A block, and where the tool stands behind it; ways and places go up to far."""
    kind = chance.randrange(8)
    if kind < 2:
        return (("setup", "tool")[kind], chance.choice(("a", "mill", "z_9", "abcdefghijkl", *OWN_WORDS))), at
    if kind == 2:
        return ("rest", chance.choice((0, 1, 100000, chance.randint(0, 100000)))), at
    axis = chance.randrange(3)
    to = chance.choice((at[axis], at[axis] + 1, chance.randint(max(-far, at[axis] - far), min(far, at[axis] + far))))
    to = max(-far, min(far, to))
    return (chance.choice(("rapid", "cut")), axis, to), tuple(to if k == axis else at[k] for k in range(3))


def drawn_program(chance, home, far, many):
    blocks, at = [], home
    for _ in range(many):
        block, at = drawn_block(chance, at, far)
        blocks.append(block)
    return tuple(blocks)


class Writer(unittest.TestCase):
    def assert_written(self, program, home):
        plain, summed, relative = code_text(program, False), code_text(program, True), relative_text(program, home)
        for text in (plain, summed, relative):
            self.assertIsInstance(text, str)
            self.assertEqual(read_code(text, home), program)
        for line in summed.split("\n"):
            ahead, sign, told = line.rpartition("*")
            self.assertEqual((sign, told), ("*", str(sum_of(ahead))), line)
        self.assertNotIn("*", plain + relative)
        self.assertNotIn("G90", relative)

    def test_the_document_s_program(self):
        self.assert_written(PROGRAM, JOB[3][2])

    def test_no_blocks(self):
        self.assert_written((), (5, 6, 7))

    def test_each_block(self):
        for block in (("setup", "flat"), ("tool", "mill"), ("tool", "box"), ("rest", 0), ("rest", 100000), ("rapid", 0, 0),
                      ("rapid", 1, -1), ("cut", 2, 999), ("cut", 0, -1000), ("rapid", 2, FARTHEST), ("cut", 1, -FARTHEST)):
            self.assert_written((block,), (0, 0, 0))
            self.assert_written((block, block), (0, 0, 0))

    def test_drawn_programs(self):
        chance = random.Random(1)
        for number in range(400):
            far = (5, 3000, FARTHEST // 2, FARTHEST)[number % 4]
            home = tuple(chance.randint(-min(far, 9), min(far, 9)) for _ in range(3))
            self.assert_written(drawn_program(chance, home, far, chance.randint(0, 40)), home)

    def test_the_farthest_ways_and_places(self):
        for far in (FARTHEST, -FARTHEST):
            self.assert_written((("cut", 0, far), ("rapid", 0, 0), ("rapid", 2, far), ("cut", 2, far)), (0, 0, 0))
        # A way that is far though its ends are not.
        self.assert_written((("cut", 0, 499999999),), (-499999999, 0, 0))
        self.assert_written((("cut", 0, -499999999),), (499999999, 0, 0))

    def test_ways_alone(self):
        """A relative code begun elsewhere goes the same ways."""
        moved = tuple([(*block[:2], block[2] + 700) if len(block) == 3 else block for block in PROGRAM])
        home = JOB[3][2]
        self.assertEqual(read_code(relative_text(PROGRAM, home), tuple([number + 700 for number in home])), moved)

    def test_twenty_thousand_blocks(self):
        program = drawn_program(random.Random(2), (0, 0, 0), 50000, 20000)
        self.assert_written(program, (0, 0, 0))


if __name__ == "__main__":
    unittest.main()
