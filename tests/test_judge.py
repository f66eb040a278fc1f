"""Promises 17 and 19: programs, and the judge."""

import random
import unittest

from cubes import cubes_of, solid_of
from drawn import some_jobs
from ownshop import like_programs, own_judge
from shop import DOWN, FLAT, JOB, MACHINE, MILL, POCKET, PROGRAM, STOCK, WISHED, changed, job_with_setup
from shopwhole.judge import is_good, is_program, judge
from shopwhole.jobs import is_fine, is_job, taken_back
from shopwhole.jobtexts import read_job
from shopwhole.plans import program_for
from shopwhole.solids import box, less, union


class Programs(unittest.TestCase):
    def test_programs(self):
        for program in ((), DOWN, PROGRAM, (("rest", 0), ("rest", 100000)), (("cut", 2, -10 ** 12), ("rapid", 0, 0)),
                        (("setup", ""), ("tool", "No name of a tool")), (("rapid", 1, 5),) * 1000):
            self.assertIs(is_program(program), True, program)

    def test_things_that_are_nearly_programs(self):
        for block in (("setup",), ("setup", "a", "b"), ("setup", 1), ("setup", None), ("tool", ("mill",)), ("tool", b"a"),
                      ("rapid", 0), ("rapid", 0, 1, 2), ("rapid", 3, 1), ("cut", -1, 1), ("rapid", True, 1),
                      ("rapid", 0, True), ("cut", 0, None), ("cut", "0", 1), ("cut", 0, "1"), ("cut", None, 1),
                      ("rest",), ("rest", -1), ("rest", 100001), ("rest", True), ("rest", False), ("rest", "5"),
                      ("rest", 5, 5), ("rest", 0, 0), ("go", 0, 1), ("Rapid", 0, 1), (0, 0, 0), (None, None), ((), 1),
                      ("", 0, 0), (), ("rapid",), [], ["rapid", 0, 1], ["rest", 5], None, 5, "rest", "cut", True,
                      ("home",), ("meet", 1), ("setup", ["flat"])):
            for program in ((block,), (("rest", 0), block), (block, *PROGRAM)):
                self.assertIs(is_program(program), False, block)
                self.assertEqual(judge(JOB, program), ("bad", 0, "form"))
                self.assertIs(is_good(JOB, program), False)

    def test_things_that_are_no_tuples(self):
        for thing in (None, 5, True, "cut", [], list(PROGRAM), {}, ("cut", 0, 1), dict.fromkeys(PROGRAM), iter(PROGRAM)):
            self.assertIs(is_program(thing), False)
            self.assertEqual(judge(JOB, thing), ("bad", 0, "form"))


class Judge(unittest.TestCase):
    def assert_bad(self, job, program, number):
        told = judge(job, program)
        self.assertEqual(told[:2], ("bad", number), told)
        self.assertEqual(len(told), 3)
        self.assertNotEqual(told[2], "form")
        self.assertEqual(own_judge(job, program)[:2], ("bad", number))
        self.assertIs(is_good(job, program), False)

    def assert_good(self, job, program):
        told, (_, cubes, time) = judge(job, program), own_judge(job, program)
        self.assertEqual(told, ("good", solid_of(cubes), time))
        self.assertIs(is_good(job, program), True)

    def test_a_good_program(self):
        self.assert_good(JOB, PROGRAM)
        self.assertEqual(judge(JOB, PROGRAM), ("good", WISHED, 39))

    def test_drawn_programs_against_own_judge(self):
        chance = random.Random(1)
        good, whys = 0, set()
        for job in some_jobs(11, 60):
            word, planned = program_for(changed(job, 2, 9))
            self.assertEqual(word, "made")
            for program in like_programs(chance, planned, 12):
                wanted = own_judge(job, program)
                told = judge(job, program)
                if wanted[0] == "good":
                    good += 1
                    self.assertEqual(told, ("good", solid_of(wanted[1]), wanted[2]))
                else:
                    whys.add(wanted[2])
                    self.assertEqual(told[:2], wanted[:2], (job, program, wanted))
                self.assertIs(is_good(job, program), wanted[0] == "good")
        self.assertGreater(good, 50)
        self.assertGreaterEqual(len(whys), 9, whys)

    def test_names_that_are_not_there(self):
        self.assert_bad(JOB, (("setup", "mill"),), 0)
        self.assert_bad(JOB, (("setup", "flat"), ("tool", "flat")), 1)
        self.assert_bad(JOB, (*PROGRAM, ("tool", "")), 10)
        self.assert_bad(JOB, (*PROGRAM, ("setup", "Flat")), 10)

    def test_taken_at_home_alone(self):
        for block in (("setup", "flat"), ("tool", "mill")):
            for place in range(len(PROGRAM) + 1):
                program = (*PROGRAM[:place], block, *PROGRAM[place:])
                if place in (0, 1, 2, 10):
                    self.assert_good(JOB, program)
                else:
                    self.assert_bad(JOB, program, place)
        # Through home, but not there at the end of the block.
        self.assert_bad(JOB, (*DOWN[:2], ("rapid", 0, -1), ("rapid", 0, 1), ("tool", "mill")), 4)

    def test_moves_ahead_of_a_setup_or_a_tool(self):
        for kind in ("rapid", "cut"):
            for to in (0, 1):
                self.assert_bad(JOB, ((kind, 0, to),), 0)
                self.assert_bad(JOB, (("setup", "flat"), (kind, 0, to)), 1)
                self.assert_bad(JOB, (("tool", "mill"), (kind, 0, to)), 1)
        self.assert_bad(JOB, (("rest", 5),), 1)

    def test_travel(self):
        begin = PROGRAM[:2]
        for axis in range(3):
            for to, is_in in ((MACHINE[0][axis], True), (MACHINE[0][axis] - 1, False), (MACHINE[1][axis], True),
                              (MACHINE[1][axis] + 1, False)):
                out = (*begin, ("rapid", 0, 5), ("rapid", axis, to))
                number = 4 if is_in else 3
                self.assert_bad(JOB, (*out, ("rapid", 3 - axis if axis else 1, 99)), number)
            for far in (10 ** 12, -10 ** 12):
                self.assertEqual(judge(JOB, (*begin, ("rapid", axis, far)))[:2], ("bad", 2))

    def test_fixtures(self):
        held = box((1, 1, 3), (2, 2, 4))
        self.assert_bad(job_with_setup(changed(FLAT, 3, held)), PROGRAM, 4)
        # In the way of the holder alone, which is over the slot.
        over = box((2, 1, 3), (3, 2, 4))
        job = job_with_setup(changed(FLAT, 3, over))
        self.assertTrue(is_job(job))
        self.assert_bad(job, PROGRAM, 6)
        cutter_low = changed(MILL, 2, box((0, 0, 5), (1, 1, 6)))
        back = (*PROGRAM[:7], ("rapid", 0, 1), *PROGRAM[7:])
        self.assert_good(changed(job, 4, (cutter_low,)), back)
        self.assert_bad(job, back, 6)
        # Rapid moves along which the holder alone meets it.
        aloft = job_with_setup(changed(FLAT, 3, box((-1, 0, 5), (0, 1, 6))))
        self.assert_bad(aloft, (*PROGRAM, ("rapid", 0, -1)), 10)
        self.assert_bad(aloft, (*PROGRAM, ("rapid", 2, 5), ("rapid", 0, -1), ("rapid", 2, 4)), 11)
        self.assertEqual(own_judge(aloft, (*PROGRAM, ("rapid", 0, -1)))[2], "holder at fixture")
        # In the cutter's way while it cuts.
        aside = changed(STOCK, 0, (0, 2, ((0, 3, ((0, 3),)),)))
        job = (aside, less(aside, box((1, 1, 1), (2, 2, 2))), 0, MACHINE, (MILL,),
               (changed(FLAT, 3, box((3, 1, 1), (4, 2, 2))),))
        self.assertTrue(is_job(job))
        self.assert_bad(job, (*DOWN, ("cut", 2, 1), ("cut", 0, 3)), 6)

    def test_the_holder_and_the_stock_ahead_of_the_block(self):
        # Going down in one block the holder comes where the cutter was, which counts as if nothing were cut.
        deep = box((0, 0, 0), (3, 3, 4))
        short = ("short", box((0, 0, 0), (1, 1, 1)), box((0, 0, 1), (1, 1, 9)), 1)
        job = (deep, less(deep, box((1, 1, 1), (2, 2, 4))), 0, ((-2, -2, 0), (4, 4, 6), (1, 1, 6), 1, 1, 1), (short,),
               (FLAT,))
        begin = (("setup", "flat"), ("tool", "short"), ("rapid", 2, 4))
        self.assert_bad(job, (*begin, ("cut", 2, 2), ("cut", 2, 1), ("rapid", 2, 6)), 3)
        self.assert_bad(job, (*begin, ("cut", 2, 3), ("cut", 2, 1), ("rapid", 2, 6)), 4)
        self.assert_good(job, (*begin, ("cut", 2, 3), ("cut", 2, 2), ("cut", 2, 1), ("rapid", 2, 6)))
        # The holder beside, over stock that is never cut.
        wide = changed(short, 2, box((1, 0, 1), (2, 1, 9)))
        self.assert_bad(changed(job, 4, (wide,)), (*begin, ("cut", 2, 3), ("cut", 2, 2)), 4)
        self.assert_bad(changed(job, 4, (wide,)), (*begin, ("cut", 2, 3), ("rapid", 2, 2)), 4)

    def test_rapid_moves_into_stock(self):
        for place in (5, 6):
            block = ("rapid", *PROGRAM[place][1:])
            self.assert_bad(JOB, changed(PROGRAM, place, block), place)
        self.assert_good(JOB, (*PROGRAM[:7], ("rapid", 0, 1), *PROGRAM[7:]))

    def test_cuts_into_what_is_wished(self):
        self.assert_bad(JOB, changed(PROGRAM, 5, ("cut", 2, 0)), 5)
        self.assert_bad(JOB, changed(PROGRAM, 6, ("cut", 0, 3)), 6)
        turned_over = ("over", 1, (0, 3, 2), ())
        job = job_with_setup(turned_over)
        self.assertEqual(taken_back(turned_over, box((1, 1, 1), (2, 2, 2))), box((1, 1, 0), (2, 2, 1)))
        self.assert_bad(job, (("setup", "over"), *PROGRAM[1:]), 5)

    def test_the_end(self):
        for many in range(len(PROGRAM)):
            self.assert_bad(JOB, PROGRAM[:many], many)
        for many in range(2, len(PROGRAM)):
            self.assertEqual(own_judge(JOB, PROGRAM[:many])[2], "left" if many == 2 else "away")
        self.assert_bad(JOB, (*PROGRAM[:6], *PROGRAM[7:]), 9)
        self.assert_bad(JOB, (*PROGRAM, ("rapid", 0, 1)), 11)
        loose = changed(JOB, 2, 1)
        self.assert_good(loose, ())
        self.assertEqual(judge(loose, ()), ("good", STOCK, 0))
        self.assertIs(is_fine(loose, STOCK), True)

    def test_moves_of_no_length(self):
        for kind in ("rapid", "cut"):
            program = PROGRAM
            for place in range(len(PROGRAM), 1, -1):
                at = list(MACHINE[2])
                for block in PROGRAM[2:place]:
                    at[block[1]] = block[2]
                program = (*program[:place], *[(kind, axis, at[axis]) for axis in range(3)], *program[place:])
            self.assertEqual(len(program), 10 + 3 * 9)
            self.assert_good(JOB, program)
            self.assertEqual(judge(JOB, program), judge(JOB, PROGRAM))

    def test_time(self):
        for rapid, change, clamp, rate in ((7, 100, 1000, 30), (0, 0, 0, 0), (1, 0, 0, 0), (0, 1, 0, 0), (0, 0, 1, 0),
                                           (0, 0, 0, 1)):
            job = (*JOB[:3], (*MACHINE[:3], rapid, change, clamp), (changed(MILL, 3, rate),), (FLAT,))
            program = (("rest", 10000), ("tool", "mill"), *PROGRAM[:7], ("rest", 7), ("rest", 0), *PROGRAM[7:],
                       ("tool", "mill"), ("setup", "flat"), ("rest", 100000))
            self.assert_good(job, program)
            self.assertEqual(judge(job, program)[2], 10 * rapid + 2 * rate + 3 * change + 2 * clamp + 110007)

    def test_each_tool_has_its_rate_and_each_setup_its_place(self):
        second, beside = changed(changed(MILL, 0, "second"), 3, 500), ("beside", 0, (1, 0, 0), ())
        job = (*JOB[:4], (MILL, second), (FLAT, beside))
        moved_on = [(*block[:2], block[2] + 1) if block[:2] in (("rapid", 0), ("cut", 0)) else block
                    for block in PROGRAM[2:8]]
        program = (("setup", "flat"), ("tool", "second"), *DOWN[2:], ("cut", 2, 1), *PROGRAM[7:],
                   ("setup", "beside"), ("tool", "mill"), *moved_on, *PROGRAM[8:])
        self.assert_good(job, program)
        self.assert_bad(job, (("setup", "beside"), *PROGRAM[1:]), 5)

    def test_thousandths(self):
        job = read_job(POCKET)
        word, program = program_for(job)
        self.assertEqual(judge(job, program)[:2], ("good", job[1]))
        self.assertEqual(judge(job, program[:-1])[:2], ("bad", len(program) - 1))
        far = (*job[:3], ((-999999999,) * 3, (999999999,) * 3, *job[3][2:]), *job[4:])
        there = (*program, ("rapid", 2, 999999999), ("rapid", 0, -999999999), ("rapid", 0, 0), ("rapid", 2, 40000))
        self.assertEqual(judge(far, there)[2], judge(job, program)[2] + 2 * 999999999 + 2 * (999999999 - 40000))

    def test_parted_stock_stays(self):
        bar = box((0, 0, 0), (5, 1, 1))
        job = (bar, box((0, 0, 0), (2, 1, 1)), 3, ((-1, -1, 0), (5, 5, 5), (0, 0, 5), 1, 1, 1), (MILL,), (FLAT,))
        program = (*PROGRAM[:2], ("rapid", 0, 2), ("cut", 2, 0), ("rapid", 2, 5), ("rapid", 0, 0))
        self.assert_good(job, program)
        self.assertEqual(judge(job, program)[1], union(box((0, 0, 0), (2, 1, 1)), box((3, 0, 0), (5, 1, 1))))
        self.assertEqual(len(cubes_of(judge(job, program)[1])), 4)


if __name__ == "__main__":
    unittest.main()
