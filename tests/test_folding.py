"""Promise 41: programs folded."""

import random
import unittest

from drawn import some_jobs
from longer import longer
from shop import JOB, POCKET, PROGRAM, changed
from test_codewriter import drawn_program
from shopwhole.codereader import read_code
from shopwhole.codewriter import relative_text
from shopwhole.folding import folded, folded_text, unfolded
from shopwhole.jobtexts import read_job
from shopwhole.plans import program_for

HOME = (5, -7, 10)


def lines_of(text):
    return len(text.split("\n"))


class Folding(unittest.TestCase):
    def assert_folded(self, program, home=HOME):
        """Unfolded, and read again, it is the program; how many lines are saved."""
        pieces, items = folded(program, home)
        self.assertIsInstance(pieces, list)
        self.assertIsInstance(items, list)
        self.assertEqual(len(set(name for name, _ in pieces)), len(pieces))
        for item in items:
            self.assertIsInstance(item, tuple)
            self.assertIn(item[0], ("call", "setup", "tool", "rapid", "cut", "rest"))
        self.assertEqual(unfolded(pieces, items, home), program)
        text = folded_text(program, home)
        self.assertEqual(read_code(text, home), program)
        saved = lines_of(relative_text(program, home)) - lines_of(text)
        self.assertGreaterEqual(saved, 0)
        return saved

    def test_the_document_s_saw(self):
        saw = tuple([("cut", 0, step) for step in range(1, 21)])
        self.assertGreater(self.assert_folded(saw, (0, 0, 0)), 10)

    def test_ways_in_the_place_of_numbers(self):
        pieces, items = folded((("rapid", 0, 15), ("tool", "a"), ("cut", 2, -90), ("rest", 3), ("rapid", 0, 15)), HOME)
        self.assertEqual((pieces, items), ([], [("rapid", 0, 10), ("tool", "a"), ("cut", 2, -100), ("rest", 3), ("rapid", 0, 0)]))

    def test_unfolded(self):
        pieces = [("a", (("cut", 0, 2), ("rest", 1))), ("b", [("rapid", 1, -1)])]
        items = [("call", "a", 2), ("rapid", 0, -1), ("call", "b", 0), ("call", "b", 1), ("tool", "t"), ("call", "a", 1)]
        self.assertEqual(unfolded(pieces, items, (0, 0, 0)), (
            ("cut", 0, 2), ("rest", 1), ("cut", 0, 4), ("rest", 1), ("rapid", 0, 3), ("rapid", 1, -1), ("tool", "t"), ("cut", 0, 5),
            ("rest", 1)))
        self.assertEqual(unfolded([], [], HOME), ())
        self.assertEqual(unfolded(pieces, [("cut", 0, 1)], HOME), (("cut", 0, 6),))

    def test_nothing_to_fold(self):
        for program in ((), (("rest", 1),), PROGRAM, tuple([("rapid", k % 3, k * k) for k in range(200)])):
            self.assertEqual(self.assert_folded(program), 0)
            self.assertEqual(folded(program, HOME)[0], [])

    def test_rows_that_come_eight_times(self):
        chance, home = random.Random(1), (0, 0, 0)
        for long in (*range(2, 41), *range(2, 41)):
            row = drawn_program(chance, home, 50, long)
            program = drawn_program(chance, home, 90, chance.randint(0, 9)) + row * 8 + drawn_program(chance, home, 90, chance.randint(0, 9))
            self.assertGreater(self.assert_folded(program, home), 0)
            self.assertGreater(self.assert_folded(row * 8, home), 0)

    def test_rows_of_ways_that_come_eight_times(self):
        """As teeth of a saw: the ways come again, not the numbers."""
        chance = random.Random(2)
        for long in range(2, 41):
            row = drawn_program(chance, (0, 0, 0), 9, long)
            ahead = drawn_program(chance, (0, 0, 0), 90, 5)
            items = [*folded(ahead, (0, 0, 0))[1], *[block for _ in range(8) for block in folded(row, (0, 0, 0))[1]]]
            program = unfolded([], [item for item in items if item[0] != "call"], HOME)
            if not [item for item in items if item[0] == "call"]:
                self.assertGreater(self.assert_folded(program), 0)

    def test_many_rows(self):
        chance = random.Random(3)
        for _ in range(150):
            rows = [drawn_program(chance, HOME, 30, chance.randint(1, 7)) for _ in range(3)]
            program = ()
            for _ in range(chance.randint(0, 12)):
                program += chance.choice(rows) * chance.choice((1, 1, 2, 3, 5))
            self.assert_folded(program)

    def test_rows_in_rows(self):
        inner = (("cut", 0, 9), ("cut", 0, 5))
        row = (("tool", "a"), *inner * 5, ("rest", 9))
        self.assertGreater(self.assert_folded(row * 9), 40)

    def test_a_piece_is_told_once(self):
        row = (("cut", 0, 9), ("rest", 1), ("cut", 0, 5))
        program = (*row * 4, ("tool", "a"), *row * 4, ("tool", "b"), *row * 4)
        self.assertEqual(self.assert_folded(program, (5, 0, 0)), 38 - 5 - 5)
        self.assertEqual(len(folded(program, (5, 0, 0))[0]), 1)

    def test_programs_of_jobs(self):
        chance = random.Random(4)
        for job in some_jobs(141, 60):
            program = program_for(changed(job, 2, 9))[1]
            self.assert_folded(program, job[3][2])
            self.assert_folded(longer(chance, job, program), job[3][2])
        job = read_job(POCKET)
        self.assert_folded(program_for(job)[1], job[3][2])
        self.assert_folded(PROGRAM, JOB[3][2])

    def test_twenty_thousand_blocks(self):
        chance = random.Random(5)
        self.assert_folded(drawn_program(chance, HOME, 20, 20000))
        self.assertGreater(self.assert_folded(drawn_program(chance, HOME, 50, 40) * 500), 19000)
        self.assertGreater(self.assert_folded((("rest", 0),) * 20000), 19990)
        self.assertGreater(self.assert_folded((("cut", 0, 1), ("cut", 0, 0)) * 10000), 19000)


if __name__ == "__main__":
    unittest.main()
