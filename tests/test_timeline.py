"""Promise 31: when blocks begin and end, where the tool stands, and what tools wear."""

import random
import unittest

from drawn import some_jobs
from longer import longer
from ownshop import like_programs, standings_to
from shop import DOWN, JOB, MACHINE, MILL, PROGRAM, changed
from shopwhole.judge import judge
from shopwhole.plans import program_for
from shopwhole.timeline import length_of_time, times_of, wear_of, where_at
from shopwhole.solids import box

SECOND = ("second", box((0, 0, 0), (1, 2, 1)), (), 7)


def own_ticks(job, program):
    """For each tick (block, standing), going on tick by tick; the begin and end of each block; the wear; the last standing."""
    ticks, times, wear, at, tool = [], [], [0] * len(job[4]), job[3][2], 0
    for number, block in enumerate(program):
        begin = len(ticks)
        if len(block) == 3:
            rate = job[4][tool][3] if block[0] == "cut" else job[3][3]
            way = standings_to(at, *block[1:])
            for standing in way[:-1]:
                for _ in range(rate):
                    ticks.append((number, standing))
                    if block[0] == "cut":
                        wear[tool] += 1
            at = way[-1]
        else:
            many = {"rest": block[1], "setup": job[3][5], "tool": job[3][4]}[block[0]]
            ticks.extend([(number, at)] * many)
            if block[0] == "tool":
                tool = [told[0] for told in job[4]].index(block[1])
        times.append((begin, len(ticks)))
    return ticks, times, tuple(wear), at


class Times(unittest.TestCase):
    def assert_times(self, job, program):
        ticks, times, wear, at = own_ticks(job, program)
        self.assertEqual(times_of(job, program), times)
        self.assertIsInstance(times_of(job, program), list)
        self.assertEqual(length_of_time(job, program), len(ticks))
        self.assertEqual(wear_of(job, program), wear)
        for tick, told in enumerate(ticks):
            self.assertEqual(where_at(job, program, tick), told, (program, tick))
        for behind in (0, 1, 1000000):
            self.assertEqual(where_at(job, program, len(ticks) + behind), (len(program), at))

    def test_the_document_s_program(self):
        self.assertEqual(times_of(JOB, PROGRAM)[:3], [(0, 20), (20, 25), (25, 26)])
        self.assertEqual(where_at(JOB, PROGRAM, 28), (4, (1, 1, 3)))
        self.assertEqual(where_at(JOB, PROGRAM, 39), (10, (0, 0, 4)))
        self.assert_times(JOB, PROGRAM)
        self.assertEqual(judge(JOB, PROGRAM)[2], length_of_time(JOB, PROGRAM))

    def test_no_blocks(self):
        self.assertEqual((times_of(JOB, ()), length_of_time(JOB, ()), wear_of(JOB, ())), ([], 0, (0,)))
        self.assertEqual(where_at(JOB, (), 0), (0, (0, 0, 4)))
        self.assertEqual(where_at(JOB, (), 7), (0, (0, 0, 4)))

    def test_ahead_of_any_tool(self):
        job = changed(JOB, 4, (changed(MILL, 3, 3), SECOND))
        program = (("cut", 0, 2), ("rapid", 0, 0), ("tool", "second"), ("cut", 0, -2), ("rest", 4))
        self.assert_times(job, program)
        self.assertEqual(times_of(job, program), [(0, 6), (6, 8), (8, 13), (13, 27), (27, 31)])
        self.assert_times(job, (("setup", "flat"), ("cut", 2, 1)))

    def test_moves_that_take_no_ticks(self):
        program = (*DOWN, ("cut", 2, 1), ("rest", 0), ("cut", 0, 2), ("rest", 2), ("rapid", 2, 4))
        for rapid, rate in ((0, 0), (0, 3), (2, 0)):
            job = (*JOB[:3], changed(MACHINE, 3, rapid), (changed(MILL, 3, rate),), JOB[5])
            self.assert_times(job, program)
        # Nor do tools and setups.
        job = (*JOB[:3], (*MACHINE[:3], 0, 0, 0), (changed(MILL, 3, 0),), JOB[5])
        self.assert_times(job, program)
        self.assertEqual(where_at(job, program, 0), (8, (2, 1, 1)))
        self.assertEqual(where_at(job, program, 2), (10, (2, 1, 4)))

    def test_whatever_is_in_the_way(self):
        self.assert_times(JOB, (*DOWN, ("cut", 2, -9), ("rapid", 1, 40), ("setup", "flat"), ("cut", 0, 1), ("rapid", 0, 1)))

    def test_wear(self):
        job = changed(JOB, 4, (MILL, SECOND))
        program = (*PROGRAM, ("tool", "second"), ("cut", 2, 5), ("cut", 2, 4), ("tool", "mill"), ("cut", 0, 3), ("cut", 0, 0))
        self.assertEqual(wear_of(job, program), (4 + 12, 14))
        self.assert_times(job, program)

    def test_drawn_programs(self):
        chance = random.Random(1)
        for job in some_jobs(91, 40):
            job = (*job[:3], (*job[3][:3], *[chance.choice((0, 1, 2, 5)) for _ in range(3)]),
                   tuple([changed(tool, 3, chance.randint(0, 4)) for tool in job[4]]), job[5])
            program = longer(chance, job, program_for(changed(job, 2, 9))[1])
            for told in like_programs(chance, program, 3):
                if not [block for block in told if block[0] in ("tool", "setup") and block[1] == "nothing"]:
                    if not [block for block in told if block[0] == "tool" and block[1] not in [tool[0] for tool in job[4]]]:
                        self.assert_times(job, told)

    def test_thousandths(self):
        job = (*JOB[:3], (*MACHINE[:3], 999999, 999999, 999999), (changed(MILL, 3, 999999),), JOB[5])
        program = (("setup", "flat"), ("tool", "mill"), ("rapid", 0, 999999999), ("cut", 0, -999999999))
        self.assertEqual(length_of_time(job, program), 999999 * (2 + 999999999 * 3))
        self.assertEqual(where_at(job, program, 999999 * (2 + 999999999 + 5) + 999998), (3, (999999994, 0, 4)))


if __name__ == "__main__":
    unittest.main()
