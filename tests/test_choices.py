"""Promise 24: the fewest setups and tools."""

import itertools
import random
import unittest

from drawn import some_jobs
from shop import CAVE, FLAT, JOB, MILL, STOCK, WISHED, changed
from shopwhole.choices import are_papers, job_with, setups_needed, tools_needed
from shopwhole.closure import can_be_made, closure, free_lot, shows_never
from shopwhole.jobs import is_job
from shopwhole.plans import program_for
from shopwhole.solids import box, less, piece_with, union_of

TOOLS, SETUPS = 4, 5


def sides_job(many):
    """A cube with a notch in so many of its faces, each of which one setup alone comes to."""
    stock = box((0, 0, 0), (5, 5, 5))
    notches = [box((2, 2, 4), (3, 3, 5)), box((2, 2, 0), (3, 3, 1)), box((4, 2, 2), (5, 3, 3)), box((2, 4, 2), (3, 5, 3))]
    mill = ("mill", box((0, 0, 0), (1, 1, 2)), box((-1, -1, 2), (2, 2, 4)), 1)
    # What each turning leads upward: +z, -z, +x, +y.
    setups = (("above", 0, (0, 0, 0), ()), ("below", 1, (0, 5, 5), ()), ("right", 12, (0, 0, 0), ()),
              ("behind", 5, (0, 5, 0), ()))
    machine = ((-3, -3, 4), (8, 8, 9), (-3, -3, 9), 1, 1, 1)
    return (stock, less(stock, union_of(notches[:many])), 0, machine, (mill,), setups)


def own_choice(job, kind):
    """The first of the fewest, trying all choices."""
    numbers = range(len(job[kind]))
    for many in range(1, len(job[kind]) + 1):
        for choice in itertools.combinations(numbers, many):
            if can_be_made((*job[:kind], tuple(job[kind][k] for k in choice), *job[kind + 1:])):
                return choice
    return None


class Jobs(unittest.TestCase):
    def test_job_with(self):
        second = changed(MILL, 0, "second")
        job = (*JOB[:4], (MILL, second), (FLAT, changed(FLAT, 0, "over"), changed(FLAT, 0, "last")))
        self.assertEqual(job_with(job, TOOLS, (1,)), (*JOB[:4], (second,), job[5]))
        self.assertEqual(job_with(job, SETUPS, (0, 2)), (*job[:5], (job[5][0], job[5][2])))
        self.assertEqual(job_with(job, TOOLS, (0, 1)), job)
        self.assertIs(is_job(job_with(job, SETUPS, (1, 2))), True)


class Fewest(unittest.TestCase):
    def assert_needed(self, job):
        out = []
        for kind, needed in ((SETUPS, setups_needed), (TOOLS, tools_needed)):
            told = needed(job)
            self.assertEqual(needed(job), told)
            wanted = own_choice(job, kind)
            if wanted is None:
                self.assertIsNone(told)
                continue
            choice, papers = told
            self.assertEqual(choice, wanted)
            self.assertEqual(program_for(job_with(job, kind, choice))[0], "made")
            others = list(itertools.combinations(range(len(job[kind])), len(choice) - 1)) if len(choice) > 1 else []
            self.assertEqual([other for other, _ in papers], others)
            for other, paper in papers:
                self.assertIs(shows_never(job_with(job, kind, other), paper), True)
            self.assertIs(are_papers(job, kind, choice, papers), True)
            out.append(choice)
        return out

    def test_drawn_jobs(self):
        chance = random.Random(1)
        choices = []
        for job in some_jobs(71, 45):
            second = chance.choice(some_jobs(chance.randint(100, 120), 1))
            job = (*job[:4], (*job[4], *[changed(tool, 0, f"more_{tool[0]}") for tool in second[4]]), job[5])
            if is_job(job):
                choices.extend(self.assert_needed(job))
        self.assertGreater(len(choices), 30)

    def test_setups_that_are_all_needed(self):
        for many in (1, 2, 3, 4):
            job = sides_job(many)
            self.assertTrue(is_job(job))
            self.assertEqual(self.assert_needed(job), [tuple(range(many)), (0,)])
            mixed = changed(job, 5, job[5][::-1])
            self.assertEqual(self.assert_needed(mixed)[0], tuple(range(4 - many, 4)))
            if many < 4:
                continue
            for number in range(4):
                self.assertIsNone(setups_needed(job_with(job, SETUPS, tuple([k for k in range(4) if k != number]))))

    def test_the_first_of_the_fewest(self):
        again = changed(FLAT, 0, "again")
        self.assertEqual(setups_needed((*JOB[:5], (FLAT, again))), ((0,), ()))
        wide = ("wide", box((0, 0, 0), (2, 2, 1)), (), 1)
        self.assertEqual(tools_needed(changed(JOB, 4, (wide, MILL, changed(MILL, 0, "third")))), ((1,), ()))
        self.assertEqual(tools_needed(changed(JOB, 4, (wide, MILL))), ((1,), ()))

    def test_two_tools_that_are_both_needed(self):
        # A deep hole for the long thin one; a groove under the top for the one with a foot.
        stock = box((0, 0, 0), (7, 5, 6))
        wished = less(less(stock, box((1, 2, 1), (2, 3, 6))), box((4, 0, 2), (7, 5, 3)))
        wished = less(wished, box((5, 0, 3), (6, 5, 6)))
        long = ("long", box((0, 0, 0), (1, 1, 8)), (), 1)
        foot = ("foot", union_of([box((-1, 0, 0), (2, 1, 1)), box((0, 0, 1), (1, 1, 8))]), (), 1)
        job = (stock, wished, 0, ((-3, -3, 0), (10, 8, 9), (-3, -3, 9), 1, 1, 1), (foot, long), (FLAT,))
        self.assertTrue(is_job(job))
        self.assertEqual(self.assert_needed(job), [(0,), (0, 1)])
        choice, papers = tools_needed(job)
        self.assertEqual([other for other, _ in papers], [(0,), (1,)])

    def test_what_cannot_be_made(self):
        self.assertIsNone(setups_needed(CAVE))
        self.assertIsNone(tools_needed(CAVE))

    def test_one_at_least(self):
        """Also where there is nothing to do at all."""
        job = (STOCK, STOCK, *JOB[2:])
        self.assertEqual((setups_needed(job), tools_needed(job)), (((0,), ()), ((0,), ())))
        self.assertIs(are_papers(job, SETUPS, (), ()), False)


class Papers(unittest.TestCase):
    def setUp(self):
        self.job = sides_job(2)
        self.choice, self.papers = setups_needed(self.job)
        self.assertEqual(self.choice, (0, 1))
        self.assertEqual([other for other, _ in self.papers], [(0,), (1,), (2,), (3,)])

    def assert_not_taken(self, choice, papers):
        self.assertIs(are_papers(self.job, SETUPS, choice, papers), False, (choice, papers))

    def test_choices(self):
        self.assertIs(are_papers(self.job, SETUPS, self.choice, self.papers), True)
        for choice in ((), (0,), (1,), (0, 2), (1, 0), (0, 1, 1), (0, 0), (0, 4), (-1, 0), [0, 1], (0, True), (False, 1), None, 5,
                       ("0", "1"), (0, None), (0, 1, 2)):
            self.assert_not_taken(choice, self.papers)
        self.assert_not_taken((0, 1, 2), ())
        self.assert_not_taken((0,), ())

    def test_more_than_the_fewest_are_not_shown(self):
        papers = tuple([(other, closure(job_with(self.job, SETUPS, other)))
                        for other in itertools.combinations(range(4), 2)])
        self.assert_not_taken((0, 1, 2), papers)

    def test_another_choice_of_the_fewest_is_taken(self):
        job = changed(self.job, 5, (*self.job[5][:2], changed(self.job[5][0], 0, "again")))
        choice, papers = setups_needed(job)
        self.assertEqual(choice, (0, 1))
        self.assertIs(are_papers(job, SETUPS, (1, 2), papers), True)
        self.assertIs(are_papers(job, SETUPS, (0, 2), papers), False)

    def test_changed_papers(self):
        papers = self.papers
        for other in ((), papers[:-1], papers[1:], papers[::-1], (*papers, papers[0]), list(papers), None, 5, "papers",
                      (papers[1], papers[0], *papers[2:]), dict(papers), (None,) * 4, ((),) * 4):
            self.assert_not_taken(self.choice, other)
        for place, (choice, paper) in enumerate(papers):
            for pair in ((choice,), [choice, paper], (choice, paper, 1), (list(choice), paper), (choice, list(paper)),
                         (choice, None), (None, paper), (choice, (paper[0], ())), (choice, (self.job[1], paper[1])),
                         (choice, (self.job[0], paper[1])), (choice, closure(self.job)), ((place + 1,), paper),
                         ((bool(place),), paper) if place < 2 else None, None, ()):
                if repr(pair) != repr((choice, paper)):
                    self.assert_not_taken(self.choice, changed(papers, place, pair))

    def test_papers_of_others(self):
        # A paper with a smaller rest still shows it, if this is not allowed.
        choice, cube = (2,), box((2, 2, 4), (3, 3, 5))
        job = job_with(self.job, SETUPS, choice)
        lot = piece_with(free_lot(job, job[5][0], job[4][0], cube), job[3][2])
        told = changed(self.papers, 2, (choice, (cube, ((lot,),))))
        self.assertIs(are_papers(self.job, SETUPS, self.choice, told), True)
        told = changed(self.papers, 2, (choice, (box((0, 0, 0), (1, 1, 1)), ((lot,),))))
        self.assertIs(are_papers(self.job, SETUPS, self.choice, told), False)

    def test_tools(self):
        self.assertIs(are_papers(JOB, TOOLS, (0,), ()), True)
        self.assertIs(are_papers(JOB, TOOLS, (0,), (((0,), closure(JOB)),)), False)
        self.assertIs(are_papers(CAVE, TOOLS, (0,), ()), False)
        self.assertEqual(closure(JOB)[0], WISHED)


if __name__ == "__main__":
    unittest.main()
