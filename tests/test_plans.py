"""Promise 23: programs for jobs."""

import unittest

from cubes import cubes_of, solid_of
from drawn import own_closure, some_jobs
from ownshop import own_judge, own_run
from shop import CAVE, FLAT, JOB, MACHINE, NARROW, POCKET, STOCK, WISHED, changed
from shopwhole.closure import closure, is_paper, shows_never
from shopwhole.jobs import is_fine, is_job
from shopwhole.jobtexts import read_job
from shopwhole.judge import is_good, is_program, judge
from shopwhole.plans import program_for
from shopwhole.solids import box, less, volume


class Plans(unittest.TestCase):
    def assert_planned(self, job):
        """A good program that leaves closure's rest, or a paper that shows that there is none."""
        told, paper = program_for(job), closure(job)
        self.assertIsInstance(told, tuple)
        self.assertEqual(len(told), 2)
        if is_fine(job, paper[0]):
            self.assertEqual(told[0], "made")
            self.assertIs(is_program(told[1]), True)
            self.assertEqual(judge(job, told[1])[:2], ("good", paper[0]))
            self.assertIs(is_good(job, told[1]), True)
        else:
            self.assertEqual(told[0], "never")
            self.assertIs(is_paper(job, told[1]), True)
            self.assertIs(shows_never(job, told[1]), True)
        self.assertEqual(program_for(job), told)
        return told

    def test_drawn_jobs(self):
        words = []
        for job in some_jobs(31, 120):
            words.append(self.assert_planned(job)[0])
            words.append(self.assert_planned(changed(job, 2, 0))[0])
        self.assertGreater(words.count("made"), 60)
        self.assertGreater(words.count("never"), 30)

    def test_by_own_judge_and_machine(self):
        """With any rest allowed each job is made: several setups and tools, turned and moved, fixtures and holders."""
        blocks = []
        for job in some_jobs(32, 50):
            job = changed(job, 2, 9)
            word, program = self.assert_planned(job)
            rest = own_closure(job)[0]
            self.assertEqual(own_judge(job, program)[:2], ("good", rest))
            alarm, machine = own_run(job, program)
            self.assertIsNone(alarm)
            self.assertEqual((machine.rest, machine.standing), (rest, job[3][2]))
            self.assert_plain(job, program)
            blocks.extend(program)
        for name in ("a", "b", "p", "q"):
            self.assertTrue([block for block in blocks if block[1:] == (name,)])

    def assert_plain(self, job, program):
        """Nothing is told that is so already."""
        at, taken = job[3][2], {}
        for block in program:
            if len(block) == 2:
                self.assertNotEqual(taken.get(block[0]), block[1])
                taken[block[0]] = block[1]
            else:
                self.assertNotEqual(at[block[1]], block[2])
                at = changed(at, block[1], block[2])

    def test_jobs_that_cannot_be_made(self):
        for job in (CAVE, NARROW):
            self.assertEqual(self.assert_planned(job)[0], "never")
            self.assertEqual(self.assert_planned(changed(job, 2, 1))[0], "made")

    def test_nothing_to_do(self):
        job = changed(JOB, 1, STOCK)
        self.assertEqual(self.assert_planned(job), ("made", ()))
        self.assertEqual(self.assert_planned(changed(changed(JOB, 3, ((0, 0, 4), (0, 0, 4), (0, 0, 4), 1, 1, 1)), 2, 1)),
                         ("made", ()))

    def test_setups_that_need_one_another(self):
        stock, wished = box((0, 0, 0), (3, 3, 3)), less(box((0, 0, 0), (3, 3, 3)), box((1, 1, 0), (2, 2, 3)))
        mill = ("mill", box((0, 0, 0), (1, 1, 2)), box((-1, -1, 2), (2, 2, 3)), 1)
        setups = (("above", 0, (0, 0, 0), ()), ("below", 1, (0, 3, 3), ()))
        job = (stock, wished, 0, ((-3, -3, 0), (6, 6, 8), (-3, -3, 8), 1, 1, 1), (mill,), setups)
        word, program = self.assert_planned(job)
        self.assertEqual([block for block in program if block[0] == "setup"], [("setup", "above"), ("setup", "below")])
        for setup in setups:
            self.assertEqual(self.assert_planned(changed(job, 5, (setup,)))[0], "never")

    def test_round_by_round_into_the_deep(self):
        # The holder is over the cutter: it comes down only where the round ahead took what stood there.
        deep = box((0, 0, 0), (3, 3, 9))
        job = (deep, less(deep, box((1, 1, 1), (2, 2, 9))), 0, ((-1, -1, 0), (4, 4, 12), (-1, -1, 12), 1, 1, 1),
               (("t", box((0, 0, 0), (1, 1, 1)), box((0, 0, 1), (1, 1, 12)), 1),), (FLAT,))
        word, program = self.assert_planned(job)
        self.assertEqual([block[2] for block in program if block[0] == "cut"], [8, 7, 6, 5, 4, 3, 2, 1])
        self.assertEqual(program[:2], (("setup", "flat"), ("tool", "t")))

    def test_home_within_the_travel(self):
        for home in ((0, 0, 4), (2, 1, 2), (6, 6, 6), (-2, 5, 0)):
            job = changed(JOB, 3, changed(MACHINE, 2, home))
            self.assertTrue(is_job(job))
            self.assertEqual(self.assert_planned(job)[0], "made")
            self.assertEqual(cubes_of(judge(job, program_for(job)[1])[1]), cubes_of(WISHED))

    def test_thousandths(self):
        job = read_job(POCKET)
        word, program = self.assert_planned(job)
        self.assertEqual(word, "made")
        self.assertLess(len(program), 30)
        self.assertEqual(volume(judge(job, program)[1]), volume(job[0]) - 20000 * 10000 * 8000)
        nosed = changed(job, 1, less(job[1], box((30000, 14000, 12000), (32000, 16000, 20000))))
        self.assertEqual(self.assert_planned(nosed)[0], "never")
        # On its side the pocket is not to be come to from above.
        aside, back = ("side", 4, (0, 0, 30000), ()), ("back", 4, (0, 0, 30000), box((5000, 0, 30000), (6000, 5000, 31000)))
        for setups in ((aside,), (back,)):
            self.assertTrue(is_job(changed(job, 5, setups)))
            self.assertEqual(self.assert_planned(changed(job, 5, setups))[0], "never")
        self.assertEqual(self.assert_planned(changed(job, 5, (aside, *job[5])))[0], "made")

    def test_what_is_cut_by_the_program_alone(self):
        self.assertEqual(solid_of(own_run(JOB, program_for(JOB)[1])[1].rest), WISHED)


if __name__ == "__main__":
    unittest.main()
