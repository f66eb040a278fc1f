"""Promise 30: programs made tidy."""

import random
import unittest

from cubes import cubes_of, plus
from drawn import some_jobs
from longer import longer
from ownshop import OwnMachine, like_programs, own_judge, own_why_not, standings_to
from shop import DOWN, FLAT, JOB, MACHINE, MILL, POCKET, PROGRAM, STOCK, changed
from shopwhole.jobtexts import read_job
from shopwhole.judge import is_good, judge
from shopwhole.plans import program_for
from shopwhole.solids import box, less
from shopwhole.tidy import do_same, first_alarm, tidied


def own_blocks(job, program):
    """The list of (machine ahead of each block, block), and the machine behind all, for a good program."""
    out, machine = [], OwnMachine(job)
    for block in program:
        out.append((copied(machine), block))
        do_own(machine, block)
    return out, machine


def copied(machine):
    other = OwnMachine(machine.job)
    other.rest, other.setup, other.tool, other.standing = set(machine.rest), machine.setup, machine.tool, machine.standing
    return other


def do_own(machine, block):
    if len(block) == 3:
        return own_why_not(machine, block, cubes_of(machine.job[1]))
    return machine.do(block)


def cuts_nothing(machine, block):
    cutter = cubes_of(machine.job[4][machine.tool][1])
    stuff = machine.stuff()
    return not any(plus(cube, at) in stuff for at in standings_to(machine.standing, *block[1:]) for cube in cutter)


def own_untidy(job, program):
    """What of a good program is not tidy, None if all is."""
    told, last = own_blocks(job, program)
    behind = [machine for machine, _ in told[1:]] + [last]
    for number, (machine, block) in enumerate(told):
        if block == ("rest", 0):
            return "rest"
        if block[0] == "setup" and machine.setup is not None and job[5][machine.setup][0] == block[1]:
            return "setup"
        if len(block) < 3:
            continue
        if machine.standing[block[1]] == block[2]:
            return "no way"
        if block[0] == "cut" and job[3][3] <= job[4][machine.tool][3] and cuts_nothing(machine, block):
            return "cuts nothing"
        if number + 1 == len(told) or told[number + 1][1][:2] != block[:2]:
            continue
        to = told[number + 1][1][2]
        ways = (block[2] - machine.standing[block[1]], to - block[2])
        if block[0] == "rapid" or (ways[0] > 0) == (ways[1] > 0):
            one = copied(machine)
            if do_own(one, (*block[:2], to)) is None and one.rest == behind[number + 1].rest:
                return "two moves"
    return None


class Tidy(unittest.TestCase):
    def assert_tidied(self, job, program):
        told = tidied(job, program)
        before, behind = own_judge(job, program), own_judge(job, told)
        self.assertEqual(before[0], "good")
        self.assertEqual(behind[:2], before[:2])
        self.assertLessEqual(behind[2], before[2])
        self.assertLessEqual(len(told), len(program))
        self.assertIsNone(own_untidy(job, told), (job, program, told))
        self.assertEqual(tidied(job, told), told)
        self.assertIs(do_same(job, program, told), True)
        return told

    def test_drawn_programs_made_longer(self):
        chance, whys, shorter = random.Random(1), set(), 0
        for job in some_jobs(81, 45):
            for rapid in (0, 1, 2):
                job = (*changed(job, 2, 9)[:3], (*job[3][:3], rapid, *job[3][4:]), *job[4:])
                program = program_for(job)[1]
                for _ in range(2):
                    program = longer(chance, job, program)
                    why = own_untidy(job, program)
                    whys.add(why)
                    told = self.assert_tidied(job, program)
                    shorter += len(program) - len(told)
                    if why is None:
                        self.assertEqual(told, program)
        self.assertEqual(whys, {None, "rest", "setup", "no way", "cuts nothing", "two moves"})
        self.assertGreater(shorter, 600)

    def test_drawn_good_programs_like_others(self):
        chance, good = random.Random(2), 0
        for job in some_jobs(82, 40):
            job = changed(job, 2, 9)
            for program in like_programs(chance, longer(chance, job, program_for(job)[1]), 10):
                if is_good(job, program):
                    self.assert_tidied(job, program)
                    good += 1
                else:
                    self.assertEqual(tidied(job, program), program)
        self.assertGreater(good, 100)

    def test_one_block_too_many(self):
        for place, block in ((1, ("rest", 0)), (1, ("setup", "flat")), (2, ("setup", "flat")), (10, ("setup", "flat")),
                             (3, ("rapid", 0, 1)), (6, ("cut", 2, 1)), (10, ("rest", 0)), (0, ("rest", 0)), (2, ("cut", 2, 4))):
            program = (*PROGRAM[:place], block, *PROGRAM[place:])
            self.assertEqual(self.assert_tidied(JOB, program), PROGRAM)
        self.assertEqual(self.assert_tidied(JOB, PROGRAM), PROGRAM)

    def test_what_stays(self):
        # A rest with ticks, and a tool told anew: it may be another one of its name.
        for place, block in ((1, ("rest", 1)), (2, ("tool", "mill")), (7, ("rest", 5)), (10, ("tool", "mill"))):
            program = (*PROGRAM[:place], block, *PROGRAM[place:])
            self.assertEqual(self.assert_tidied(JOB, program), program)
        second = changed(FLAT, 0, "second")
        job = changed(JOB, 5, (FLAT, second))
        program = (("setup", "second"), *PROGRAM)
        self.assertEqual(self.assert_tidied(job, program), program)

    def test_cuts_that_cut_nothing(self):
        program = (*PROGRAM[:2], ("cut", 0, 1), *PROGRAM[3:7], ("cut", 2, 4), *PROGRAM[8:])
        for rapid, rate in ((0, 0), (1, 2), (2, 2), (0, 5)):
            job = (*JOB[:3], changed(MACHINE, 3, rapid), (changed(MILL, 3, rate),), JOB[5])
            self.assertEqual(self.assert_tidied(job, program), PROGRAM)
        for rapid, rate in ((3, 2), (1, 0), (999999, 5)):
            job = (*JOB[:3], changed(MACHINE, 3, rapid), (changed(MILL, 3, rate),), JOB[5])
            self.assertEqual(self.assert_tidied(job, program), program)

    def test_moves_that_stand_together(self):
        slow = changed(JOB, 4, (changed(MILL, 3, 1),))
        for job in (JOB, slow):
            parted = (*PROGRAM[:7], ("rapid", 2, 2), ("rapid", 2, 3), *PROGRAM[7:])
            self.assertEqual(self.assert_tidied(job, parted), PROGRAM)
            # Rapid moves to and fro, past their end, and round by nothing.
            for ways in ((6, 4), (6, 5, 4), (3, 6, 4), (5, 4, 5, 4)):
                program = (*PROGRAM[:7], *[("rapid", 2, to) for to in ways], *PROGRAM[8:])
                self.assertEqual(self.assert_tidied(job, program), PROGRAM)
            program = (*PROGRAM, ("rapid", 0, 2), ("rapid", 1, 2), ("rapid", 1, 0), ("rapid", 0, 0))
            self.assertEqual(self.assert_tidied(job, program), PROGRAM)

    def test_cuts_that_stand_together(self):
        long = box((0, 0, 0), (9, 3, 2))
        job = (long, less(long, box((1, 1, 1), (8, 2, 2))), 0, ((-2, -2, 0), (11, 6, 6), (0, 0, 4), 1, 5, 20), (MILL,), (FLAT,))
        begin = (*DOWN, ("cut", 2, 1))
        end = (("rapid", 2, 4), ("rapid", 0, 0), ("rapid", 1, 0))
        program = (*begin, ("cut", 0, 2), ("cut", 0, 4), ("cut", 0, 5), ("cut", 0, 7), *end)
        self.assertEqual(self.assert_tidied(job, program), (*begin, ("cut", 0, 7), *end))
        # Back again is another sense: it cuts nothing, but is quicker if rapid.
        program = (*begin, ("cut", 0, 7), ("cut", 0, 3), ("cut", 0, 1), *end)
        self.assertEqual(self.assert_tidied(job, program), (*begin, ("cut", 0, 7), ("rapid", 0, 1), *end))
        # Where rapid takes longer they stay cuts, two of them.
        quick = (*job[:3], (*job[3][:3], 3, 5, 20), *job[4:])
        self.assertEqual(self.assert_tidied(quick, program), (*begin, ("cut", 0, 7), ("cut", 0, 1), *end))

    def test_cuts_that_the_judge_does_not_let_by_as_one(self):
        # The holder comes down where the cutter was: in one block this is as if nothing were cut.
        deep = box((0, 0, 0), (3, 3, 9))
        short = ("short", box((0, 0, 0), (1, 1, 2)), box((0, 0, 2), (1, 1, 20)), 1)
        job = (deep, less(deep, box((1, 1, 1), (2, 2, 9))), 0, ((-2, -2, 0), (4, 4, 12), (1, 1, 12), 1, 1, 1), (short,), (FLAT,))
        program = (("setup", "flat"), ("tool", "short"), ("rapid", 2, 9), *[("cut", 2, k) for k in range(8, 0, -1)], ("rapid", 2, 12))
        told = self.assert_tidied(job, program)
        self.assertEqual([block[2] for block in told[3:-1]], [7, 5, 3, 1])

    def test_programs_that_are_not_good(self):
        for program in (DOWN, (*PROGRAM, ("rest", 0), ("tool", "saw")), (("rest", 0),), (("rest", 0), ("cut", 0, 0)),
                        (*DOWN, ("rest", 0), ("cut", 2, 0)), (("cut", 3, 1),), (("rest", -1),)):
            self.assertFalse(is_good(JOB, program))
            self.assertEqual(tidied(JOB, program), program)

    def test_nothing_to_do(self):
        job = changed(JOB, 1, STOCK)
        self.assertEqual(self.assert_tidied(job, ()), ())
        self.assertEqual(self.assert_tidied(job, (("rest", 0),) * 5), ())
        self.assertEqual(self.assert_tidied(job, (*PROGRAM[:2], ("setup", "flat"), ("rapid", 0, 3), ("cut", 0, 0))), PROGRAM[:2])

    def test_thousandths(self):
        job = read_job(POCKET)
        program = program_for(job)[1]
        at, parted = job[3][2], []
        for block in program:
            if len(block) == 3:
                middle = (at[block[1]] + block[2]) // 2
                parted.append((*block[:2], middle))
                at = changed(at, block[1], block[2])
            parted.append(block)
        told = tidied(job, tuple(parted))
        self.assertLessEqual(len(told), len(program))
        self.assertEqual(judge(job, told)[:2], ("good", job[1]))
        self.assertEqual(tidied(job, told), told)


class Same(unittest.TestCase):
    def test_do_same(self):
        other = (*PROGRAM, ("rest", 5))
        for one, two, wanted in ((PROGRAM, PROGRAM, True), (PROGRAM, other, True), (other, PROGRAM, True), (PROGRAM, DOWN, False),
                                 (DOWN, PROGRAM, False), (DOWN, DOWN, False), (PROGRAM, (), False), ((), (), False)):
            self.assertIs(do_same(JOB, one, two), wanted)
        # Both good, but one leaves more.
        job = changed(JOB, 2, 9)
        self.assertIs(do_same(job, PROGRAM, ()), False)
        self.assertIs(do_same(job, (), (("rest", 3),)), True)

    def test_first_alarm(self):
        for program, wanted in ((PROGRAM, None), ((), None), (DOWN, None), ((*DOWN, ("cut", 2, 0)), 5), ((("tool", "saw"),), 0),
                                ((*PROGRAM, ("tool", "saw")), 10), ((*PROGRAM[:5], *PROGRAM[6:]), None),
                                ((*PROGRAM[:3], *PROGRAM[4:]), 4), ((("rest", 0), ("cut", 0, 0)), 1), ((("cut", 3, 1),), 0)):
            self.assertEqual(first_alarm(JOB, program), wanted, program)

    def test_drawn_programs(self):
        chance = random.Random(3)
        for job in some_jobs(83, 40):
            job = changed(job, 2, chance.choice((0, 9)))
            for program in like_programs(chance, program_for(changed(job, 2, 9))[1], 6):
                told = own_judge(job, program)
                wanted = None if told[0] == "good" or told[1] == len(program) else told[1]
                self.assertEqual(first_alarm(job, program), wanted)


if __name__ == "__main__":
    unittest.main()
