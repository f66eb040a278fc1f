"""Promise 20: power that fails at any step, and the machine that begins again."""

import random
import unittest

from cubes import cubes_of, solid_of
from drawn import some_jobs
from ownshop import like_programs, own_history
from shop import CAVE, DOWN, JOB, MILL, POCKET, PROGRAM, STOCK, WISHED, changed
from shopwhole.errors import Alarm
from shopwhole.jobtexts import read_job
from shopwhole.judge import is_good, judge
from shopwhole.motor import Motor, run_motor
from shopwhole.plans import program_for
from shopwhole.solids import box, less
from shopwhole.stops import Stopped, most_steps, run_history, steps_in

# A program with marks in between, rests, and a tool and a setup told anew.
HOME = (("rapid", 2, 4), ("rapid", 0, 0), ("rapid", 1, 0))
LONG = (*DOWN, ("cut", 2, 1), ("rest", 3), *HOME, ("rest", 5), ("tool", "other"), *DOWN[2:], ("cut", 2, 1), ("cut", 0, 2),
        *HOME, ("setup", "flat"), ("tool", "mill"), ("rest", 0))
TWO = changed(JOB, 4, (MILL, changed(MILL, 0, "other")))


def random_history(chance, most, many):
    return tuple([(chance.randint(0, most), chance.random() < 0.5) for _ in range(chance.randint(0, many))])


class Histories(unittest.TestCase):
    def assert_history(self, job, program, history):
        """As by own standings, step by step."""
        told, stock, steps = run_history(job, program, history)
        (word, starts), cubes, own_steps, journal = own_history(job, program, history)
        self.assertEqual((told[:2], stock, steps), ((word, starts), solid_of(cubes), own_steps), (program, history))
        self.assertEqual(len(told), 2 if word == "done" else 3)
        machine = Stopped(job)
        for stop in (*history, None)[:starts - 1]:
            self.assertIs(machine.start(program, stop), False)
        if word == "done":
            self.assertIs(machine.start(program, (*history, None)[starts - 1]), True)
            self.assertEqual((machine.journal, machine.steps, machine.stock), (journal, steps, stock))
        else:
            self.assertRaises(Alarm, machine.start, program, (*history, None)[starts - 1])
        return word

    def assert_done(self, job, program, history):
        """For a good program: done, without an alarm, with the judge's stock, within most_steps."""
        told, stock, steps = run_history(job, program, history)
        self.assertEqual(told[0], "done", (program, history))
        self.assertEqual(stock, judge(job, program)[1])
        self.assertLessEqual(steps, most_steps(job, program, history))
        self.assertLessEqual(told[1], len(history) + 1)

    def assert_both(self, job, program, history):
        self.assert_done(job, program, history)
        self.assertEqual(self.assert_history(job, program, history), "done")

    def test_the_document_s_history(self):
        history = ((3, False), (0, True))
        self.assertEqual(run_history(JOB, PROGRAM, history), (("done", 3), WISHED, 18))
        self.assertEqual(run_history(JOB, PROGRAM, ()), (("done", 1), WISHED, 12))
        self.assertEqual((steps_in(JOB, PROGRAM), most_steps(JOB, PROGRAM, history)), (12, 27))

    def test_a_stop_behind_each_step(self):
        for job, program in ((JOB, PROGRAM), (TWO, LONG)):
            self.assertIs(is_good(job, program), True)
            for steps in range(steps_in(job, program) + 3):
                for is_torn in (False, True):
                    self.assert_both(job, program, ((steps, is_torn),))

    def test_one_stop_behind_another(self):
        """Also on the way home, and at once again."""
        for one in range(14):
            for other in range(14):
                for torn in ((False, False), (True, True), (False, True), (True, False)):
                    self.assert_both(JOB, PROGRAM, ((one, torn[0]), (other, torn[1])))

    def test_many_stops(self):
        chance = random.Random(1)
        for job, program in ((JOB, PROGRAM), (TWO, LONG)):
            for _ in range(150):
                self.assert_both(job, program, random_history(chance, chance.randint(0, 26), 12))

    def test_on_the_way_home_step_by_step(self):
        # Nine steps out, then a step of the way home at each start.
        history = ((9, False), *[(1, False)] * 9)
        self.assert_both(JOB, PROGRAM, history)
        self.assertEqual(run_history(JOB, PROGRAM, history), (("done", 11), WISHED, 9 + 9 + 12))
        machine = Stopped(JOB)
        machine.start(PROGRAM, (9, False))
        far = [machine.standing]
        for _ in range(9):
            machine.start(PROGRAM, (1, False))
            far.append(machine.standing)
        self.assertEqual(far, [(2, 1, 4), (2, 1, 3), (2, 1, 2), (2, 1, 1), (1, 1, 1), (1, 1, 2), (1, 1, 3), (1, 1, 4),
                               (1, 0, 4), (0, 0, 4)])

    def test_drawn_jobs(self):
        chance = random.Random(2)
        for job in some_jobs(61, 30):
            job = changed(job, 2, 9)
            program = program_for(job)[1]
            for _ in range(6):
                self.assert_both(job, program, random_history(chance, 30, 6))

    def test_programs_that_are_not_good(self):
        chance = random.Random(3)
        words = []
        for job in some_jobs(62, 25):
            for program in like_programs(chance, program_for(changed(job, 2, 9))[1], 12):
                words.append(self.assert_history(job, program, random_history(chance, 20, 4)))
                words.append(self.assert_history(job, (*program, *program), random_history(chance, 40, 4)))
        self.assertGreater(words.count("alarm"), 100)
        self.assertGreater(words.count("done"), 30)

    def test_alarms(self):
        told, stock, steps = run_history(JOB, (*DOWN, ("cut", 2, 1), ("rapid", 0, 2)), ((4, True), (2, False)))
        self.assertEqual((told[:2], stock, steps), (("alarm", 3), less(STOCK, box((1, 1, 1), (2, 2, 2))), 4 + 2 + 2 + 5))
        # Without power for the step that would be wrong there is no alarm yet.
        self.assertEqual(run_history(JOB, (*DOWN, ("rapid", 2, 1)), ((4, False),))[0][:2], ("alarm", 2))
        self.assertEqual(run_history(JOB, (*DOWN, ("rapid", 2, 1)), ((5, False),))[0][:2], ("alarm", 1))
        # What needs no step is done, and is wrong, without power.
        self.assertEqual(run_history(JOB, (("tool", "saw"),), ((0, False),))[0][:2], ("alarm", 1))
        self.assertEqual(run_history(JOB, (("rapid", 0, 1),), ((0, False),))[0][:2], ("alarm", 1))

    def test_programs_without_a_move(self):
        for program in ((), (("rest", 5),), PROGRAM[:2], (("tool", "mill"), ("rest", 0), ("setup", "flat"), ("rest", 9)),
                        (*PROGRAM[:2], ("rapid", 0, 0), ("cut", 2, 4))):
            job = changed(JOB, 2, 1)
            self.assertIs(is_good(job, program), True)
            self.assertEqual((steps_in(job, program), most_steps(job, program, ())), (0, 0))
            for history in ((), ((0, False),), ((0, True),), ((0, True),) * 7, ((5, True), (0, False)), ((1, True),)):
                self.assert_both(job, program, history)
                torn = 0
                while program and torn < len(history) and history[torn] == (0, True):
                    torn += 1
                self.assertEqual(run_history(job, program, history), (("done", torn + 1), STOCK, 0))

    def test_most_steps(self):
        self.assertEqual(steps_in(JOB, (*PROGRAM, ("rest", 9), ("rapid", 0, -2), ("cut", 0, 5), ("rapid", 0, 5))), 12 + 9)
        self.assertEqual(most_steps(JOB, PROGRAM, ()), 24)
        self.assertEqual(most_steps(JOB, PROGRAM, ((0, True), (7, False), (1000, True))), 24 + 1007)
        self.assertEqual(steps_in(JOB, ()), 0)
        # It may come to that: all but the last step done, and then all of it back and forth.
        shuttle = (*PROGRAM[:2], ("rapid", 0, 5), ("rapid", 0, 0))
        job = changed(JOB, 2, 1)
        self.assertEqual(run_history(job, shuttle, ((9, False),)), (("done", 2), STOCK, 9 + 9 + 10))
        self.assertEqual(most_steps(job, shuttle, ((9, False),)), 29)


class Journal(unittest.TestCase):
    def started(self, program, *stops):
        machine = Stopped(TWO)
        told = [machine.start(program, stop) for stop in stops]
        return machine, told

    def test_at_first(self):
        machine = Stopped(JOB)
        self.assertEqual((machine.stock, machine.setup, machine.tool, machine.standing, machine.steps, machine.journal),
                         (STOCK, None, None, (0, 0, 4), 0, []))
        self.assertIsInstance(machine, Motor)

    def test_marks_behind_blocks_that_end_at_home(self):
        machine, told = self.started(LONG, None)
        self.assertEqual((told, machine.journal), ([True], [0, 1, 9, 10, 11, 19, 20, 21, 22]))
        self.assertEqual(machine.standing, (0, 0, 4))
        # Begun again behind all of it there is nothing to do.
        self.assertIs(machine.start(LONG, (0, True)), True)
        self.assertEqual((machine.journal, machine.steps), ([0, 1, 9, 10, 11, 19, 20, 21, 22], steps_in(TWO, LONG)))

    def test_torn_marks(self):
        # Ten steps lead home for the first time.
        machine, told = self.started(LONG, (10, True))
        self.assertEqual((told, machine.journal, machine.standing), ([False], [0, 1, None], (0, 0, 4)))
        self.assertIs(machine.start(LONG, (0, False)), False)
        self.assertEqual((machine.journal, machine.steps, machine.tool), ([0, 1, None], 10, 0))
        self.assertIs(machine.start(LONG, (10, False)), False)
        self.assertEqual((machine.journal, machine.steps, machine.tool), ([0, 1, None, 9, 10, 11], 20, 1))
        machine, told = self.started(LONG, (10, True), (10, True), None)
        self.assertEqual((told, machine.journal),
                         ([False, False, True], [0, 1, None, None, 9, 10, 11, 19, 20, 21, 22]))

    def test_a_torn_mark_at_the_very_end(self):
        machine, told = self.started(PROGRAM, (12, True), None)
        self.assertEqual((told, machine.journal, machine.steps), ([False, True], [0, 1, None, 9], 24))
        machine, told = self.started(PROGRAM, (12, False))
        self.assertEqual((told, machine.journal, machine.steps), ([True], [0, 1, 9], 12))
        machine, told = self.started(PROGRAM, (13, True))
        self.assertEqual((told, machine.journal, machine.steps), ([True], [0, 1, 9], 12))

    def test_no_steps_at_all(self):
        machine, told = self.started(LONG, (0, False))
        self.assertEqual((told, machine.journal, machine.setup, machine.tool), ([False], [0, 1], 0, 0))
        machine, told = self.started(LONG, (0, True))
        self.assertEqual((told, machine.journal, machine.setup, machine.tool), ([False], [None], 0, None))
        machine, told = self.started(LONG, (0, True), (0, True), (0, False))
        self.assertEqual((told, machine.journal), ([False] * 3, [None, None, 0, 1]))

    def test_setup_and_tool_are_taken_again(self):
        machine, told = self.started(LONG, (10 + 9, False))
        self.assertEqual((machine.tool, machine.journal), (1, [0, 1, 9, 10, 11]))
        machine.start(LONG, (2, False))
        self.assertEqual((machine.setup, machine.tool), (0, 1))
        # The mark of the change of the tool is torn: the one that was told ahead of it is taken, and it is told anew.
        machine, told = self.started((*LONG[:10], *LONG[11:]), (10, True))
        self.assertEqual(machine.journal, [0, 1, None])
        self.assertIs(machine.start((*LONG[:10], *LONG[11:]), (10, True)), False)
        self.assertEqual((machine.journal, machine.tool), ([0, 1, None, None], 0))

    def test_the_last_ones_told_ahead_are_taken_again(self):
        third = (*TWO[:5], (*TWO[5], ("beside", 0, (1, 0, 0), ())))
        blocks = (("setup", "beside"), ("tool", "other"), ("rest", 1), ("tool", "mill"), ("setup", "flat"), ("rest", 2))
        for marks, wanted in ((6, (0, 0)), (5, (0, 0)), (4, (1, 0)), (3, (1, 1)), (2, (1, 1)), (1, (1, 1)), (0, (0, 1))):
            machine = Stopped(third)
            self.assertIs(machine.start(blocks[:marks], None), True)
            self.assertEqual(machine.journal, list(range(marks)))
            # Others are taken by hand, at home.
            machine.do(("setup", "flat" if marks < 5 else "beside"))
            machine.do(("tool", "mill" if marks in (2, 3) else "other"))
            machine.start(blocks[:marks], (0, False))
            self.assertEqual((machine.setup, machine.tool), wanted)

    def test_home_in_the_middle_of_a_block(self):
        """A mark is written, and the way forgotten, at the end of a block alone."""
        through = (*PROGRAM[:2], ("rapid", 0, -2), ("rapid", 0, 3), ("rapid", 0, 0))
        job = changed(TWO, 2, 1)
        machine = Stopped(job)
        self.assertIs(machine.start(through, (4, True)), False)
        self.assertEqual((machine.standing, machine.journal), ((0, 0, 4), [0, 1]))
        for steps in range(12):
            for is_torn in (False, True):
                told, stock, done = run_history(job, through, ((steps, is_torn),))
                self.assertEqual((told[0], stock), ("done", STOCK))
                self.assertLessEqual(done, most_steps(job, through, ((steps, is_torn),)))
        self.assertEqual(run_history(job, through, ((5, False),)), (("done", 2), STOCK, 5 + 5 + 10))

    def test_as_a_motor(self):
        chance = random.Random(4)
        for job in some_jobs(63, 10):
            program = program_for(changed(job, 2, 9))[1]
            motor, machine = Motor(job), Stopped(job)
            for block in program:
                motor.do(block)
                machine.do(block)
                self.assertEqual((machine.stock, machine.setup, machine.tool, machine.standing, machine.steps),
                                 (motor.stock, motor.setup, motor.tool, motor.standing, motor.steps))
            for _ in range(20):
                block = (chance.choice(("cut", "rapid")), chance.randint(0, 2), chance.randint(-4, 8))
                stuck = []
                for one in (motor, machine):
                    try:
                        one.do(block)
                    except Alarm:
                        stuck.append(one)
                self.assertIn(len(stuck), (0, 2))
                self.assertEqual((machine.stock, machine.standing, machine.steps),
                                 (motor.stock, motor.standing, motor.steps))
            # It went out by blocks done one at a time, some of them not to their ends: it goes home the same way.
            machine.start((), None)
            self.assertEqual(machine.standing, machine.home)

    def test_it_does_not_know_what_is_wished(self):
        # No good program, but no alarm: it goes on and leaves what it leaves.
        program = (*DOWN, ("cut", 2, 0), *HOME)
        self.assertIs(is_good(CAVE, program), False)
        told, stock, _ = run_history(CAVE, program, ((6, True), (3, False)))
        self.assertEqual((told[0], stock), ("done", run_motor(CAVE, program)[1]))
        self.assertEqual(cubes_of(STOCK) - cubes_of(stock), {(1, 1, 0), (1, 1, 1)})


class Thousandths(unittest.TestCase):
    def test_a_pocket(self):
        job = read_job(POCKET)
        program = program_for(job)[1]
        whole = steps_in(job, program)
        chance = random.Random(5)
        for _ in range(40):
            history = tuple([(chance.randint(0, 2 * whole), chance.random() < 0.5) for _ in range(chance.randint(1, 8))])
            told, stock, steps = run_history(job, program, history)
            self.assertEqual((told[0], stock), ("done", job[1]))
            self.assertLessEqual(steps, most_steps(job, program, history))
        self.assertEqual(run_history(job, program, ((50001, False), (50000, True))),
                         (("done", 3), job[1], 50001 + 50000 + 1 + whole))

    def test_far_away(self):
        far = changed(JOB, 3, ((-999999999,) * 3, (999999999,) * 3, *JOB[3][2:]))
        program = (*PROGRAM[:2], ("rapid", 0, 999999999), ("rapid", 0, 0), *PROGRAM[2:])
        self.assertEqual(run_history(far, program, ((999999999, False), (5, True))),
                         (("done", 3), WISHED, 999999999 + 5 + 999999994 + 2 * 999999999 + 12))
        # The way that it came has a step to and fro, which it goes, too.
        self.assertEqual(run_history(far, program, ((10 ** 9, False), (5, True))),
                         (("done", 3), WISHED, 10 ** 9 + 5 + (10 ** 9 - 5) + 2 * 999999999 + 12))


if __name__ == "__main__":
    unittest.main()
