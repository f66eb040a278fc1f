"""Promise 18: the machine."""

import random
import unittest

from cubes import solid_of
from drawn import some_jobs
from ownshop import OwnMachine, Stuck, like_programs, own_run
from shop import DOWN, FLAT, JOB, MACHINE, MILL, POCKET, PROGRAM, STOCK, WISHED, changed, job_with_setup, job_with_tool
from shopwhole.errors import Alarm
from shopwhole.jobs import is_job
from shopwhole.jobtexts import read_job
from shopwhole.judge import is_good, judge
from shopwhole.motor import Motor, run_motor
from shopwhole.plans import program_for
from shopwhole.solids import box, less, union


def state_of(motor):
    return motor.stock, motor.setup, motor.tool, motor.standing, motor.steps


def own_state(machine):
    return solid_of(machine.rest), machine.setup, machine.tool, machine.standing, machine.steps


def does(motor, block):
    """Whether a block is done without an alarm."""
    try:
        return motor.do(block) is None
    except Alarm:
        return False


class Machines(unittest.TestCase):
    def assert_runs(self, job, program):
        """As the own machine, block by block, and as a whole; why it stopped, None if it didn't."""
        machine, motor, why = OwnMachine(job), Motor(job), None
        self.assertEqual(state_of(motor), (job[0], None, None, job[3][2], 0))
        for number, block in enumerate(program):
            try:
                machine.do(block)
            except Stuck as stuck:
                why = stuck.args[0]
            self.assertIs(does(motor, block), why is None, (job, program, number, why))
            self.assertEqual(state_of(motor), own_state(machine))
            if why is not None:
                break
        told, stock = run_motor(job, program)
        self.assertEqual(stock, solid_of(machine.rest))
        if why is None:
            self.assertEqual(told, ("done", machine.standing))
        else:
            self.assertEqual((told[:2], len(told)), (("alarm", number), 3))
        return why

    def assert_alarm(self, job, program, number, why, standing, steps):
        self.assertTrue(is_job(job))
        self.assertEqual(self.assert_runs(job, program), why)
        (stopped, _), machine = own_run(job, program)
        self.assertEqual((stopped, machine.standing, machine.steps), (number, standing, steps))


class Runs(Machines):
    def test_the_document_s_program(self):
        self.assertIsNone(self.assert_runs(JOB, PROGRAM))
        self.assertEqual(run_motor(JOB, PROGRAM), (("done", (0, 0, 4)), WISHED))
        self.assertIsNone(self.assert_runs(JOB, ()))
        self.assertEqual(run_motor(JOB, DOWN), (("done", (1, 1, 2)), STOCK))

    def test_drawn_programs(self):
        chance = random.Random(1)
        whys = []
        for job in some_jobs(51, 60):
            for program in like_programs(chance, program_for(changed(job, 2, 9))[1], 10):
                whys.append(self.assert_runs(job, program))
        self.assertGreater(whys.count(None), 100)
        self.assertGreaterEqual(len(set(whys)), 7, set(whys))

    def test_an_alarm_is_no_end(self):
        """What goes wrong is told at each block; the machine goes on from where it stands."""
        chance = random.Random(2)
        for job in some_jobs(52, 25):
            machine, motor = OwnMachine(job), Motor(job)
            words = [("setup", setup[0]) for setup in job[5]] + [("tool", tool[0]) for tool in job[4]]
            for block in words + [(chance.choice(("cut", "cut", "rapid")), chance.randint(0, 2), chance.randint(-3, 7))
                                  for _ in range(40)]:
                try:
                    machine.do(block)
                    is_done = True
                except Stuck:
                    is_done = False
                self.assertIs(does(motor, block), is_done)
                self.assertEqual(state_of(motor), own_state(machine))

    def test_what_is_wished_is_unknown(self):
        motor = Motor(JOB)
        for block in (*DOWN, ("cut", 2, 0)):
            self.assertIsNone(motor.do(block))
        self.assertEqual(motor.stock, less(STOCK, box((1, 1, 0), (2, 2, 2))))
        self.assertEqual(judge(JOB, (*DOWN, ("cut", 2, 0)))[:2], ("bad", 5))

    def test_good_programs_run_and_leave_the_judge_s_stock(self):
        chance = random.Random(3)
        good = 0
        for job in some_jobs(53, 60):
            job = changed(job, 2, chance.choice((0, 1, 9)))
            word, planned = program_for(job)
            for program in like_programs(chance, planned if word == "made" else (), 10):
                if is_good(job, program):
                    good += 1
                    self.assertEqual(run_motor(job, program), (("done", job[3][2]), judge(job, program)[1]))
        self.assertGreater(good, 100)

    def test_setups_and_tools_told_anew(self):
        second, beside = changed(MILL, 0, "second"), ("beside", 0, (1, 0, 0), ())
        job = (*JOB[:4], (MILL, second), (FLAT, beside))
        motor = Motor(job)
        for block, wanted in ((("tool", "second"), (None, 1)), (("setup", "beside"), (1, 1)), (("tool", "second"), (1, 1)),
                              (("setup", "flat"), (0, 1)), (("tool", "mill"), (0, 0)), (("rest", 5), (0, 0))):
            self.assertIsNone(motor.do(block))
            self.assertEqual((motor.setup, motor.tool, motor.steps, motor.standing), (*wanted, 0, (0, 0, 4)))
        for block in PROGRAM:
            motor.do(block)
        self.assertEqual((motor.stock, motor.steps), (WISHED, 12))
        # The same moves in the other setup cut elsewhere.
        again = (*PROGRAM, ("setup", "beside"), *PROGRAM[1:])
        self.assertIsNone(self.assert_runs(job, again))
        self.assertEqual(run_motor(job, again)[1], less(WISHED, box((0, 1, 1), (2, 2, 2))))

    def test_rests_and_moves_of_no_length(self):
        program = (("rest", 7), *DOWN, ("rest", 0), ("cut", 2, 2), ("rapid", 0, 1), ("cut", 1, 1), ("rest", 100000))
        self.assertIsNone(self.assert_runs(JOB, program))
        motor = Motor(JOB)
        for block in program:
            motor.do(block)
        self.assertEqual((motor.steps, motor.standing, motor.stock), (4, (1, 1, 2), STOCK))

    def test_parted_stock_stays(self):
        bar = box((0, 0, 0), (5, 1, 1))
        job = (bar, box((0, 0, 0), (2, 1, 1)), 3, ((-1, -1, 0), (5, 5, 5), (0, 0, 5), 1, 1, 1), (MILL,), (FLAT,))
        program = (*PROGRAM[:2], ("rapid", 0, 2), ("cut", 2, 0), ("rapid", 2, 5), ("rapid", 0, 4), ("rapid", 2, 1),
                   ("cut", 2, 0))
        self.assertIsNone(self.assert_runs(job, program))
        self.assertEqual(run_motor(job, program)[1], union(box((0, 0, 0), (2, 1, 1)), box((3, 0, 0), (4, 1, 1))))


class Alarms(Machines):
    """For each thing that the machine asks a program in which it alone is wrong."""

    def test_names(self):
        for block in (("setup", "mill"), ("tool", "flat"), ("tool", ""), ("setup", "Flat")):
            self.assert_alarm(JOB, (*PROGRAM, block), 10, "name", (0, 0, 4), 12)

    def test_away_from_home(self):
        for block in (("setup", "flat"), ("tool", "mill")):
            self.assert_alarm(JOB, (*DOWN[:3], block), 3, "away", (1, 0, 4), 1)
            self.assert_alarm(JOB, (*DOWN[:2], ("rapid", 0, -1), ("rapid", 0, 1), block), 4, "away", (1, 0, 4), 3)
            self.assertIsNone(self.assert_runs(JOB, (*DOWN[:2], ("rapid", 0, 1), ("rapid", 0, 0), block)))

    def test_moves_ahead_of_a_setup_or_a_tool(self):
        for word in ("rapid", "cut"):
            for to in (0, 1):
                self.assert_alarm(JOB, ((word, 0, to),), 0, "untold", (0, 0, 4), 0)
                self.assert_alarm(JOB, (("setup", "flat"), (word, 0, to)), 1, "untold", (0, 0, 4), 0)
                self.assert_alarm(JOB, (("tool", "mill"), ("rest", 1), (word, 0, to)), 2, "untold", (0, 0, 4), 0)

    def test_travel(self):
        for word in ("rapid", "cut"):
            for axis in range(3):
                for way, limit in ((-1, MACHINE[0][axis]), (1, MACHINE[1][axis])):
                    begin, start = (*PROGRAM[:2], ("rapid", 0, 5)), (5, 0, 4)
                    at, units = changed(start, axis, limit), 5 + abs(limit - start[axis])
                    self.assertIsNone(self.assert_runs(JOB, (*begin, (word, axis, limit))))
                    for to in (limit + way, limit + 9 * way):
                        self.assert_alarm(JOB, (*begin, (word, axis, to)), 3, "travel", at, units)

    def test_far_out_of_the_travel(self):
        motor = Motor(JOB)
        for block in PROGRAM[:2]:
            motor.do(block)
        self.assertRaises(Alarm, motor.do, ("cut", 0, 10 ** 12))
        self.assertEqual(state_of(motor), (STOCK, 0, 0, (6, 0, 4), 6))

    def test_the_cutter_at_the_fixture(self):
        job = job_with_setup(changed(FLAT, 3, box((1, 1, 2), (2, 2, 3))))
        for word in ("rapid", "cut"):
            self.assert_alarm(job, (*DOWN[:4], (word, 2, 0)), 4, "cutter at fixture", (1, 1, 3), 3)
        # Nothing is cut on a step on which the cutter meets the fixture.
        wide = changed(changed(MILL, 1, box((0, 0, 0), (2, 1, 1))), 2, ())
        job = changed(job_with_setup(changed(FLAT, 3, box((4, 1, 1), (5, 2, 2)))), 4, (wide,))
        program = (*PROGRAM[:2], ("rapid", 1, 1), ("cut", 2, 1), ("cut", 0, 4))
        self.assert_alarm(job, program, 4, "cutter at fixture", (2, 1, 1), 6)
        self.assertEqual(run_motor(job, program)[1], less(STOCK, box((0, 1, 1), (4, 2, 2))))

    def test_the_cutter_at_the_stock(self):
        self.assert_alarm(JOB, (*DOWN, ("rapid", 2, 0)), 5, "cutter at stock", (1, 1, 2), 4)
        self.assert_alarm(JOB, (*DOWN, ("cut", 2, 1), ("rapid", 0, 3)), 6, "cutter at stock", (1, 1, 1), 5)
        self.assert_alarm(JOB, (*PROGRAM[:7], ("rapid", 0, -2)), 7, "cutter at stock", (1, 1, 1), 7)

    def test_the_holder_at_the_fixture(self):
        job = job_with_setup(changed(FLAT, 3, box((2, 1, 3), (3, 2, 4))))
        for word in ("rapid", "cut"):
            self.assert_alarm(job, (*DOWN, ("cut", 2, 1), (word, 0, 3)), 6,
                              "holder at fixture" if word == "cut" else "cutter at stock", (1, 1, 1), 5)
        # The cutter's step is done: its stuff is gone.
        self.assertEqual(run_motor(job, (*DOWN, ("cut", 2, 1), ("cut", 0, 3)))[1], WISHED)
        self.assert_alarm(job, (*DOWN[:2], ("rapid", 1, 1), ("rapid", 0, -1), ("rapid", 2, 2), ("rapid", 0, 3)), 5,
                          "holder at fixture", (1, 1, 2), 6)

    def test_the_holder_at_the_stock(self):
        wide = changed(MILL, 2, box((1, 0, 1), (2, 1, 3)))
        job = job_with_tool(wide)
        self.assert_alarm(job, (*DOWN, ("cut", 2, 0)), 5, "holder at stock", (1, 1, 1), 5)
        self.assertEqual(run_motor(job, (*DOWN, ("cut", 2, 0)))[1], less(STOCK, box((1, 1, 0), (2, 2, 2))))
        # Rapid, where the cutter is over nothing.
        beside = job_with_tool(changed(MILL, 2, box((1, 0, 0), (2, 1, 3))))
        self.assert_alarm(beside, (*DOWN[:2], ("rapid", 0, -1), ("rapid", 2, 0)), 3, "holder at stock", (-1, 0, 2), 3)
        self.assertEqual(run_motor(beside, (*DOWN[:2], ("rapid", 0, -1), ("rapid", 2, 0)))[1], STOCK)

    def test_the_holder_comes_where_the_cutter_was(self):
        """On the machine, which goes step by step, a holder may follow its cutter in one block."""
        deep = box((0, 0, 0), (3, 3, 9))
        for long in (1, 2, 3):
            tool = ("t", box((0, 0, 0), (1, 1, long)), box((0, 0, long), (1, 1, 20)), 1)
            job = (deep, box((0, 0, 0), (1, 1, 1)), 9, ((-2, -2, 0), (4, 4, 12), (1, 1, 12), 1, 1, 1), (tool,), (FLAT,))
            program = (("setup", "flat"), ("tool", "t"), ("rapid", 2, 9), ("cut", 2, 0))
            self.assertIsNone(self.assert_runs(job, program))
            self.assertEqual(judge(job, program)[:2], ("bad", 3))
            # With a thicker holder it is stuck as soon as this comes down to the stock.
            thick = changed(tool, 2, box((0, 0, long), (2, 1, 20)))
            self.assert_alarm(changed(job, 4, (thick,)), program, 3, "holder at stock", (1, 1, 9 - long), 3 + long)
            # With a step in it, too: the cutter has a part that goes ahead of the thick one.
            ahead = changed(thick, 1, union(tool[1], box((1, 0, long - 1), (2, 1, long))))
            self.assertIsNone(self.assert_runs(changed(job, 4, (ahead,)), program))

    def test_cutters_behind_their_holders(self):
        """The holder comes first along x, and the cutter would take it off too late, or just in time."""
        for gap in (0, 1, 2):
            tool = ("t", box((0, 0, 0), (1, 1, 1)), box((1 + gap, 0, 0), (2 + gap, 1, 1)), 1)
            for begin in range(-5, 7):
                job = (STOCK, box((3, 0, 0), (4, 1, 1)), 9, ((-9, 0, 0), (9, 3, 4), (begin, 0, 4), 1, 1, 1), (tool,), (FLAT,))
                for to in (-9, 9):
                    self.assert_runs(job, (("setup", "flat"), ("tool", "t"), ("cut", 2, 0), ("cut", 0, to)))


class Thousandths(unittest.TestCase):
    def test_a_pocket(self):
        job = read_job(POCKET)
        program = program_for(job)[1]
        self.assertEqual(run_motor(job, program), (("done", job[3][2]), job[1]))
        stuck, stock = run_motor(job, (*program[:2], ("cut", 0, 10000), ("cut", 1, 10000), ("cut", 2, 0), ("cut", 0, 0)))
        self.assertEqual(stuck[:2], ("alarm", 4))
        # The holder, 10 mm above the tool's point, comes down to the stock at 20 mm.
        self.assertEqual(stock, less(job[0], box((10000, 10000, 9999), (15000, 15000, 20000))))
        motor = Motor(job)
        for block in (*program[:2], ("cut", 0, 10000), ("cut", 1, 10000)):
            motor.do(block)
        self.assertRaises(Alarm, motor.do, ("cut", 2, 0))
        self.assertEqual((motor.standing, motor.steps), ((10000, 10000, 10000), 50000))

    def test_a_holder_behind_a_flat_cutter(self):
        deep = box((0, 0, 0), (30, 30, 2000))
        tool = ("t", box((0, 0, 0), (5, 5, 1)), box((0, 0, 1), (5, 5, 9000)), 1)
        job = (deep, box((0, 0, 0), (1, 1, 1)), 9999, ((0, 0, 0), (9, 9, 3000), (5, 5, 3000), 1, 1, 1), (tool,), (FLAT,))
        told, stock = run_motor(job, (("setup", "flat"), ("tool", "t"), ("rapid", 2, 2000), ("cut", 2, 0)))
        self.assertEqual((told, stock), (("done", (5, 5, 0)), less(deep, box((5, 5, 0), (10, 10, 2000)))))


if __name__ == "__main__":
    unittest.main()
