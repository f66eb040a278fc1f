"""Promise 1: from the text of a job, over its program and its code, to chips, whatever stops and begins again."""

import random
import unittest

from cubes import cubes_of, solid_of
from drawn import own_closure, some_jobs
from longer import longer
from ownshop import like_programs, own_history, own_judge
from shop import CAVE, JOB, NARROW, POCKET, changed
from shopwhole.closure import is_paper, shows_never
from shopwhole.codereader import read_code
from shopwhole.codewriter import code_text, relative_text
from shopwhole.edits import Book, program_again
from shopwhole.folding import folded_text
from shopwhole.jobs import is_fine
from shopwhole.jobtexts import job_text, read_job
from shopwhole.judge import judge
from shopwhole.leastrounds import least_program
from shopwhole.lives import lives_hold, with_changes
from shopwhole.motor import run_motor
from shopwhole.plans import program_for
from shopwhole.solids import is_within, spread
from shopwhole.stops import most_steps, run_history, steps_in
from shopwhole.tidy import do_same, tidied


def random_history(chance, most, many):
    return tuple([(chance.randint(0, most), chance.random() < 0.5) for _ in range(chance.randint(0, many))])


class Whole(unittest.TestCase):
    def codes_of(self, program, home):
        return [code_text(program, False), code_text(program, True), relative_text(program, home)]

    def assert_ends(self, chance, job, program):
        """The judge, the machine and the own machine end alike, whatever the history, with what is wished."""
        word, stock, _ = judge(job, program)
        self.assertEqual(word, "good")
        self.assertTrue(is_within(job[1], stock) and is_within(stock, spread(job[1], job[2])))
        self.assertEqual(own_judge(job, program)[:2], ("good", cubes_of(stock)))
        self.assertEqual(run_motor(job, program), (("done", job[3][2]), stock))
        for history in ((), random_history(chance, 12, 5), random_history(chance, steps_in(job, program) + 1, 4)):
            told, left, steps = run_history(job, program, history)
            self.assertEqual((told[0], left), ("done", stock))
            self.assertLessEqual(steps, most_steps(job, program, history))
            own, rest, own_steps, _ = own_history(job, program, history)
            self.assertEqual((told, left, steps), (own, solid_of(rest), own_steps))

    def assert_whole(self, chance, text):
        job = read_job(text)
        word, told = program_for(job)
        if word == "never":
            self.assertTrue(is_paper(job, told) and shows_never(job, told))
            self.assertFalse(is_fine(job, solid_of(own_closure(job)[0])))
            return word
        for code in self.codes_of(told, job[3][2]):
            program = read_code(code, job[3][2])
            self.assertEqual(program, told)
        self.assert_ends(chance, job, program)
        self.assertTrue(is_fine(job, solid_of(own_closure(job)[0])))
        return word

    def test_drawn_jobs(self):
        chance, words = random.Random(1), []
        for job in some_jobs(101, 60):
            for allowance in (0, 9):
                words.append(self.assert_whole(chance, job_text(changed(job, 2, allowance))))
        self.assertGreater(words.count("made"), 60)
        self.assertGreater(words.count("never"), 5)

    def test_programs_of_others(self):
        """Good programs, however they came to be, by their codes."""
        chance, good = random.Random(2), 0
        for job in some_jobs(102, 25):
            job = read_job(job_text(changed(job, 2, 9)))
            planned = program_for(job)[1]
            for told in like_programs(chance, longer(chance, job, planned), 5):
                program = read_code(code_text(told, True), job[3][2])
                self.assertEqual(program, told)
                if judge(job, program)[0] == "good":
                    good += 1
                    self.assert_ends(chance, job, program)
                    self.assert_ends(chance, job, read_code(relative_text(tidied(job, program), job[3][2]), job[3][2]))
        self.assertGreater(good, 20)

    def test_all_ways_to_a_program_leave_the_same(self):
        chance, book = random.Random(3), Book()
        for job in some_jobs(103, 20):
            job = changed(job, 2, 9)
            programs = [program_for(job)[1], least_program(job)[1], program_again(job, book)[1]]
            programs.extend([tidied(job, program) for program in programs])
            stocks = [judge(job, program)[1] for program in programs]
            self.assertEqual(stocks, [solid_of(own_closure(job)[0])] * 6)
            self.assert_ends(chance, job, programs[chance.randrange(6)])

    def test_all_that_is_made_of_a_program_is_good(self):
        """Tidied, with tools changed, folded, in any order, it ends as the program does."""
        chance, more = random.Random(6), 0
        for job in some_jobs(104, 25):
            job = changed(job, 2, 9)
            home, lives = job[3][2], tuple([chance.choice((tool[3], 3 * tool[3], None)) for tool in job[4]])
            program = longer(chance, job, program_for(job)[1])
            makers = [lambda told: tidied(job, told), lambda told: with_changes(job, told, lives),
                      lambda told: read_code(folded_text(told, home), home)]
            for make in chance.sample(makers, 3):
                told = make(program)
                self.assertTrue(do_same(job, program, told))
                more += len(told) - len(program)
                program = told
            told = tidied(job, with_changes(job, program, lives))
            self.assertTrue(lives_hold(job, told, lives))
            self.assert_ends(chance, job, told)
        self.assertGreater(more, 0)

    def test_jobs_that_cannot_be_made(self):
        for job in (CAVE, NARROW):
            self.assertEqual(self.assert_whole(random.Random(4), job_text(job)), "never")
            self.assertEqual(self.assert_whole(random.Random(4), job_text(changed(job, 2, 1))), "made")
        self.assertEqual(self.assert_whole(random.Random(4), job_text(JOB)), "made")

    def test_the_pocket(self):
        chance, job = random.Random(5), read_job(POCKET)
        program = program_for(job)[1]
        for code in self.codes_of(program, job[3][2]):
            self.assertEqual(read_code(code, job[3][2]), program)
        self.assertEqual(judge(job, program)[:2], ("good", job[1]))
        for _ in range(30):
            history = random_history(chance, steps_in(job, program) + 1, 5)
            told, stock, steps = run_history(job, program, history)
            self.assertEqual((told[0], stock), ("done", job[1]))
            self.assertLessEqual(steps, most_steps(job, program, history))


if __name__ == "__main__":
    unittest.main()
