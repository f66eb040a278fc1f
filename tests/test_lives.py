"""Promise 32: tools that wear."""

import random
import unittest

from drawn import some_jobs
from longer import longer
from ownshop import own_judge, standings_to, with_number
from shop import DOWN, FLAT, JOB, MILL, POCKET, PROGRAM, changed
from shopwhole.errors import BadThing, ShopError
from shopwhole.jobtexts import read_job
from shopwhole.judge import judge
from shopwhole.lives import lives_hold, with_changes
from shopwhole.plans import program_for
from shopwhole.solids import box, less

SECOND = ("second", box((0, 0, 0), (1, 2, 1)), (), 3)


def own_hold(job, program, lives):
    """Counting tick by tick between blocks of tools."""
    at, tool, ticks = job[3][2], None, 0
    for block in program:
        if block[0] == "tool":
            tool, ticks = [told[0] for told in job[4]].index(block[1]), 0
        elif len(block) == 3:
            for _ in standings_to(at, *block[1:])[1:] if block[0] == "cut" else ():
                for _ in range(job[4][tool][3]):
                    ticks += 1
                    if lives[tool] is not None and ticks > lives[tool]:
                        return False
            at = with_number(at, *block[1:])
    return True


def idle_moves(job, program):
    """How many moves go nowhere."""
    at, many = job[3][2], 0
    for block in program:
        if len(block) == 3:
            many += at[block[1]] == block[2]
            at = with_number(at, *block[1:])
    return many


def with_rates(chance, job):
    return (*job[:4], tuple([changed(tool, 3, chance.randint(0, 4)) for tool in job[4]]), job[5])


class Hold(unittest.TestCase):
    def test_the_document_s_program(self):
        for lives, wanted in (((4,), True), ((3,), False), ((None,), True), ((0,), False), ((5,), True)):
            self.assertIs(lives_hold(JOB, PROGRAM, lives), wanted)
            self.assertIs(own_hold(JOB, PROGRAM, lives), wanted)

    def test_between_blocks_of_tools(self):
        job = changed(JOB, 4, (MILL, SECOND))
        program = (*PROGRAM, ("tool", "second"), ("cut", 2, 5), ("cut", 2, 4), ("tool", "mill"), ("cut", 2, 5), ("cut", 2, 4))
        for lives, wanted in (((4, 6), True), ((3, 6), False), ((4, 5), False), ((4, None), True), ((None, 6), True)):
            self.assertIs(lives_hold(job, program, lives), wanted)
        # A tool told anew is another one of its name, also if it is the one that was there.
        again = (*PROGRAM, ("tool", "mill"), ("cut", 2, 5), ("cut", 2, 4), ("tool", "mill"), ("cut", 2, 6), ("rapid", 2, 4))
        self.assertIs(lives_hold(JOB, again, (4,)), True)
        self.assertIs(lives_hold(JOB, (*PROGRAM, ("cut", 2, 5), ("cut", 2, 4)), (7,)), False)
        self.assertIs(lives_hold(JOB, (*PROGRAM, ("cut", 2, 5), ("cut", 2, 4)), (8,)), True)
        # Nothing but ticks of cutting counts.
        self.assertIs(lives_hold(JOB, (*PROGRAM, ("rest", 900), ("rapid", 2, 6), ("rapid", 2, 4), ("setup", "flat")), (4,)), True)

    def test_no_cuts(self):
        for program in ((), DOWN, (("rest", 5),)):
            self.assertIs(lives_hold(JOB, program, (0,)), True)

    def test_drawn_programs(self):
        chance, told = random.Random(1), []
        for job in some_jobs(111, 60):
            job = with_rates(chance, changed(job, 2, 9))
            program = longer(chance, job, program_for(job)[1])
            for _ in range(8):
                lives = tuple([chance.choice((None, chance.randint(0, 40))) for _ in job[4]])
                self.assertIs(lives_hold(job, program, lives), own_hold(job, program, lives))
                told.append(lives_hold(job, program, lives))
        self.assertGreater(min(told.count(True), told.count(False)), 50)


class Changes(unittest.TestCase):
    def assert_changed(self, job, program, lives):
        told = with_changes(job, program, lives)
        self.assertIsInstance(told, tuple)
        before, behind = own_judge(job, program), own_judge(job, told)
        self.assertEqual((before[0], behind[:2]), ("good", before[:2]), (job, program, told))
        self.assertEqual(judge(job, told)[0], "good")
        self.assertIs(own_hold(job, told, lives), True, (program, lives, told))
        self.assertIs(lives_hold(job, told, lives), True)
        self.assertEqual(idle_moves(job, told), idle_moves(job, program))
        return told

    def test_all_lives_without_an_end(self):
        self.assertEqual(with_changes(JOB, PROGRAM, (None,)), PROGRAM)
        job = changed(JOB, 4, (MILL, SECOND))
        long = (("rest", 0), *PROGRAM, ("rest", 0))
        self.assertEqual(with_changes(job, long, (None, None)), long)

    def test_a_life_that_is_just_the_rate(self):
        told = self.assert_changed(JOB, PROGRAM, (2,))
        self.assertEqual(told.count(("tool", "mill")), 2)
        self.assertFalse(lives_hold(JOB, PROGRAM, (2,)))
        for life in (3, 4, 5, 100):
            self.assert_changed(JOB, PROGRAM, (life,))

    def test_lives_that_hold_already(self):
        self.assertEqual([block[0] for block in self.assert_changed(JOB, PROGRAM, (4,))].count("tool"), 1)

    def test_one_move_longer_than_a_life(self):
        long = box((0, 0, 0), (12, 3, 2))
        job = (long, less(long, box((0, 1, 1), (12, 2, 2))), 0, ((-2, -2, 0), (14, 6, 6), (0, 0, 4), 1, 5, 20), (MILL,), (FLAT,))
        program = (*DOWN[:2], ("rapid", 0, -1), ("rapid", 1, 1), ("rapid", 2, 1), ("cut", 0, 12), ("cut", 0, -1), ("rapid", 2, 4),
                   ("rapid", 1, 0), ("rapid", 0, 0))
        for life in range(2, 60):
            told = self.assert_changed(job, program, (life,))
            cuts = [block for block in told if block[0] == "cut"]
            self.assertGreaterEqual(len(cuts), -(-26 // (life // 2)))
        # From home on and back to it.
        home = (0, 1, 1)
        begun_low = (less(long, box((0, 1, 1), (2, 2, 2))), *job[1:3], (*job[3][:2], home, 1, 5, 20), (("short", *MILL[1:]),), job[5])
        program = (("setup", "flat"), ("tool", "short"), ("cut", 0, 12), ("cut", 0, -2), ("cut", 0, 0))
        for life in (2, 3, 7, 8, 30):
            self.assert_changed(begun_low, program, (life,))

    def test_lives_that_are_too_short(self):
        job = changed(JOB, 4, (MILL, SECOND))
        for lives in ((1, None), (1, 9), (0, 3), (2, 2), (None, 2), (None, 0), (9, 1)):
            with self.assertRaises(BadThing) as caught:
                with_changes(job, PROGRAM, lives)
            self.assertEqual(caught.exception.thing, lives)
            self.assertIsInstance(caught.exception, ShopError)
        for lives in ((2, 3), (2, None), (None, 3), (999999, 3)):
            self.assert_changed(job, PROGRAM, lives)
        # No ticks, no wear.
        self.assertEqual(with_changes(changed(JOB, 4, (changed(MILL, 3, 0),)), PROGRAM, (0,)), PROGRAM)

    def test_drawn_programs(self):
        chance, more = random.Random(2), 0
        for job in some_jobs(112, 60):
            job = with_rates(chance, changed(job, 2, 9))
            for program in (program_for(job)[1], longer(chance, job, program_for(job)[1])):
                for most in (0, 3, 30):
                    lives = tuple([chance.choice((None, tool[3], tool[3] + chance.randint(0, most))) for tool in job[4]])
                    told = self.assert_changed(job, program, lives)
                    more += len([block for block in told if block[0] == "tool"]) - len([block for block in program if block[0] == "tool"])
        self.assertGreater(more, 300)

    def test_thousandths(self):
        job = read_job(POCKET)
        program = program_for(job)[1]
        for life in (2000, 50000, 40000, 123457):
            told = with_changes(job, program, (life,))
            self.assertEqual(judge(job, told)[:2], ("good", job[1]))
            self.assertTrue(lives_hold(job, told, (life,)))
            self.assertFalse(lives_hold(job, program, (life,)))
        self.assertRaises(BadThing, with_changes, job, program, (3,))


if __name__ == "__main__":
    unittest.main()
