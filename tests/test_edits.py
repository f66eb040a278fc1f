"""Promise 25: jobs planned again, once they are changed, by a book."""

import random
import unittest

from drawn import some_jobs
from shop import CAVE, FLAT, JOB, MACHINE, MILL, NARROW, POCKET, STOCK, WISHED, changed
from shopwhole.edits import Book, program_again
from shopwhole.jobs import is_job
from shopwhole.jobtexts import read_job
from shopwhole.plans import program_for
from shopwhole.solids import box, less, union

SECOND = ("second", box((0, 0, 0), (1, 2, 1)), (), 3)
OVER = ("over", 1, (0, 3, 2), ())

# The job with one thing changed: part, stock, allowance, machine, tools, setups, fixtures, names, ticks.
EDITS = (
    JOB, CAVE, NARROW, changed(JOB, 1, STOCK), changed(JOB, 1, less(WISHED, box((0, 0, 1), (1, 1, 2)))),
    changed(JOB, 0, union(STOCK, box((0, 0, 2), (1, 1, 3)))), changed(JOB, 2, 1), changed(CAVE, 2, 1), changed(NARROW, 2, 2),
    changed(JOB, 3, changed(MACHINE, 2, (1, 1, 5))), changed(JOB, 3, changed(MACHINE, 0, (0, 0, 1))),
    changed(JOB, 3, changed(MACHINE, 1, (2, 6, 6))), changed(JOB, 3, (*MACHINE[:3], 7, 7, 7)),
    changed(JOB, 4, (MILL, SECOND)), changed(JOB, 4, (SECOND, MILL)), changed(JOB, 4, (changed(MILL, 0, "other"),)),
    changed(JOB, 4, (changed(MILL, 3, 9),)), changed(JOB, 4, (changed(MILL, 2, ()),)),
    changed(JOB, 4, (changed(MILL, 2, box((-1, -1, 1), (2, 2, 3))),)), changed(JOB, 4, (changed(MILL, 1, box((0, 0, 0), (2, 1, 1))),)),
    changed(JOB, 5, (FLAT, OVER)), changed(JOB, 5, (OVER,)), changed(JOB, 5, (changed(FLAT, 2, (1, 0, 0)),)),
    changed(JOB, 5, (changed(FLAT, 3, box((-1, 0, 0), (0, 3, 2))),)), changed(JOB, 5, (changed(FLAT, 3, box((2, 1, 3), (3, 2, 4))),)),
    changed(JOB, 5, (changed(FLAT, 0, "again"),)),
)


class Edits(unittest.TestCase):
    def assert_again(self, job, book):
        """Just what program_for returns; how often the book was asked and had an answer this time."""
        asked, used = book.asked, book.used
        self.assertEqual(program_again(job, book), program_for(job))
        self.assertGreaterEqual(book.asked - asked, 1)
        self.assertTrue(0 <= book.used - used <= book.asked - asked)
        return book.asked - asked, book.used - used

    def test_a_new_book(self):
        book = Book()
        self.assertEqual((book.asked, book.used), (0, 0))
        # Once while it cuts, once more till nothing is cut.
        self.assertEqual(self.assert_again(JOB, book), (2, 0))
        self.assertEqual(self.assert_again(JOB, book), (2, 2))
        self.assertEqual((book.asked, book.used), (4, 2))
        self.assertEqual((Book().asked, Book().used), (0, 0))

    def test_edits_by_one_book(self):
        for job in EDITS:
            self.assertTrue(is_job(job), job)
        for seed in range(4):
            chance, book = random.Random(seed), Book()
            for job in chance.sample(EDITS, len(EDITS)):
                self.assert_again(job, book)
            for job in chance.sample(EDITS, len(EDITS)):
                asked, used = self.assert_again(job, book)
                self.assertEqual(asked, used)

    def test_a_change_of_one_tool_leaves_the_answers_for_the_others(self):
        book = Book()
        self.assert_again(changed(JOB, 4, (MILL, SECOND)), book)
        asked, used = self.assert_again(changed(JOB, 4, (MILL, changed(SECOND, 1, box((0, 0, 0), (2, 2, 1))))), book)
        self.assertGreater(used, 0)
        # Names and ticks are no reason to plan anew.
        asked, used = self.assert_again(changed(JOB, 4, (changed(MILL, 0, "a"), changed(changed(SECOND, 0, "b"), 3, 8))), book)
        self.assertEqual(asked, used)

    def test_drawn_jobs_by_one_book(self):
        chance, book = random.Random(5), Book()
        jobs = some_jobs(51, 40)
        for job in list(jobs):
            other = chance.choice(jobs)
            for place in range(6):
                told = changed(job, place, other[place])
                if is_job(told) and chance.random() < 0.5:
                    jobs.append(told)
            jobs.append(changed(job, 2, 9))
        known = set()
        for number in [chance.randrange(len(jobs)) for _ in range(2 * len(jobs))]:
            asked, used = self.assert_again(jobs[number], book)
            if number in known:
                self.assertEqual(asked, used)
            known.add(number)

    def test_thousandths(self):
        job, book = read_job(POCKET), Book()
        self.assert_again(job, book)
        self.assertEqual(self.assert_again(changed(job, 2, 1), book)[1], book.used)
        lower = changed(job, 1, less(job[1], box((10000, 10000, 11000), (30000, 20000, 12000))))
        self.assert_again(lower, book)
        asked, used = self.assert_again(job, book)
        self.assertEqual(asked, used)


if __name__ == "__main__":
    unittest.main()
