"""Promise 21: all that can be cut."""

import random
import unittest

from cubes import beside, cubes_of, flooded, random_solid, solid_of
from drawn import own_closure, own_free, some_jobs
from shop import CAVE, FLAT, JOB, MACHINE, MILL, NARROW, POCKET, STOCK, WISHED, changed
from shopwhole.closure import can_be_made, closure, free_lot, is_paper, shows_never
from shopwhole.jobs import is_fine, is_job, placed
from shopwhole.jobtexts import read_job
from shopwhole.lots import cube_at
from shopwhole.solids import box, is_within, less, moved, spread, union


def with_lot(paper, setup, tool, lot):
    return paper[0], changed(paper[1], setup, changed(paper[1][setup], tool, lot))


class Free(unittest.TestCase):
    def test_against_each_standing(self):
        chance = random.Random(1)
        for job in some_jobs(2, 25):
            for setup in job[5]:
                for tool in job[4]:
                    rest = less(job[0], random_solid(chance, -1, 5, 3)[0])
                    self.assertEqual(free_lot(job, setup, tool, rest),
                                     solid_of(own_free(job, setup, tool, cubes_of(rest))))

    def test_what_stands_in_the_way(self):
        at_slot = (1, 1, 1)
        self.assertIn(at_slot, cubes_of(free_lot(JOB, FLAT, MILL, STOCK)))
        self.assertIn((-1, 0, 0), cubes_of(free_lot(JOB, FLAT, MILL, STOCK)))
        self.assertNotIn((1, 1, 0), cubes_of(free_lot(JOB, FLAT, MILL, WISHED)))
        lower = changed(MILL, 2, box((1, 0, 0), (2, 1, 1)))
        self.assertNotIn(at_slot, cubes_of(free_lot(JOB, FLAT, lower, STOCK)))
        self.assertIn(at_slot, cubes_of(free_lot(JOB, FLAT, lower, WISHED)))
        held = changed(FLAT, 3, box((1, 1, 3), (2, 2, 4)))
        self.assertNotIn(at_slot, cubes_of(free_lot(JOB, held, MILL, WISHED)))
        self.assertIn((7, 0, 0), cubes_of(spread(free_lot(JOB, FLAT, MILL, ()), 1)))
        self.assertNotIn((7, 0, 0), cubes_of(free_lot(JOB, FLAT, MILL, ())))


class Closure(unittest.TestCase):
    def test_against_going_through_all_standings(self):
        made = 0
        for job in some_jobs(3, 90):
            rest, lots = own_closure(job)
            paper = closure(job)
            self.assertEqual(paper, (solid_of(rest), tuple(tuple(solid_of(lot) for lot in row) for row in lots)))
            self.assertIs(is_paper(job, paper), True)
            is_made = is_fine(job, solid_of(rest))
            made += is_made
            self.assertIs(can_be_made(job), is_made)
            self.assertIs(shows_never(job, paper), not is_made)
        self.assertGreater(made, 5)
        self.assertLess(made, 85)

    def test_order_of_setups_and_tools_is_free(self):
        for job in some_jobs(4, 25):
            rest, lots = closure(job)
            other = (*job[:4], job[4][::-1], job[5][::-1])
            self.assertEqual(closure(other), (rest, tuple(row[::-1] for row in lots[::-1])))

    def test_one_setup_opens_the_way_for_another(self):
        # From above nothing is cut at z 0; turned over, nothing at z 2; both cut all but what is wished.
        stock, wished = box((0, 0, 0), (3, 3, 3)), less(box((0, 0, 0), (3, 3, 3)), box((1, 1, 0), (2, 2, 3)))
        mill = ("mill", box((0, 0, 0), (1, 1, 2)), box((-1, -1, 2), (2, 2, 3)), 1)
        above, below = ("above", 0, (0, 0, 0), ()), ("below", 1, (0, 3, 3), ())
        machine = ((-3, -3, 0), (6, 6, 8), (-3, -3, 8), 1, 1, 1)
        job = (stock, wished, 0, machine, (mill,), (above, below))
        self.assertTrue(is_job(job))
        self.assertIs(can_be_made(job), True)
        self.assertIs(can_be_made(changed(job, 5, (above,))), False)
        self.assertIs(can_be_made(changed(job, 5, (below,))), False)
        self.assertEqual(closure(job)[0], wished)

    def test_step_by_step_into_the_deep(self):
        # The holder comes down only where the cutter took what stood ahead of it.
        deep = box((0, 0, 0), (3, 3, 9))
        job = (deep, less(deep, box((1, 1, 1), (2, 2, 9))), 0, ((-1, -1, 0), (4, 4, 12), (-1, -1, 12), 1, 1, 1),
               (("t", box((0, 0, 0), (1, 1, 1)), box((0, 0, 1), (1, 1, 12)), 1),), (FLAT,))
        self.assertIs(can_be_made(job), True)
        wider = changed(job, 4, (("t", box((0, 0, 0), (1, 1, 3)), box((-1, 0, 3), (2, 1, 12)), 1),))
        self.assertEqual(closure(wider)[0], less(deep, box((1, 1, 6), (2, 2, 9))))

    def test_home_alone(self):
        job = changed(JOB, 3, ((0, 0, 4), (0, 0, 4), (0, 0, 4), 1, 1, 1))
        self.assertEqual(closure(job), (STOCK, ((cube_at((0, 0, 4)),),)))
        self.assertIs(can_be_made(changed(job, 1, STOCK)), True)

    def test_jobs_that_can_and_cannot_be_made(self):
        self.assertIs(can_be_made(JOB), True)
        for job in (CAVE, NARROW):
            self.assertTrue(is_job(job))
            self.assertIs(can_be_made(job), False)
            self.assertIs(shows_never(job, closure(job)), True)
            self.assertIs(can_be_made(changed(job, 2, 1)), True)
            self.assertIs(shows_never(changed(job, 2, 1), closure(job)), False)

    def test_the_pocket_in_thousandths(self):
        job = read_job(POCKET)
        paper = closure(job)
        self.assertEqual(paper[0], job[1])
        self.assertIs(is_paper(job, paper), True)
        self.assertIs(can_be_made(job), True)
        # A cutter of 5 mm leaves the corners of a pocket with a nose of 2 mm.
        nosed = changed(job, 1, less(job[1], box((30000, 14000, 12000), (32000, 16000, 20000))))
        self.assertEqual(closure(nosed)[0], job[1])
        self.assertIs(can_be_made(nosed), False)
        self.assertIs(can_be_made(changed(nosed, 2, 999)), False)
        self.assertIs(can_be_made(changed(nosed, 2, 1000)), True)


class Papers(unittest.TestCase):
    def test_papers_of_others_are_taken(self):
        rest, lots = closure(JOB)
        # A rest with less than the closure's, even nothing: the lots are as large, and nothing of it is cut.
        for less_told in (less(rest, box((0, 0, 0), (1, 1, 1))), box((0, 0, 0), (1, 1, 1)), ()):
            free = free_lot(JOB, FLAT, MILL, less_told)
            reached = solid_of(set(flooded(cubes_of(free), MACHINE[2])))
            self.assertIs(is_paper(JOB, (less_told, ((reached,),))), True)
            # So is all that is free, whether one comes there or not.
            self.assertIs(is_paper(JOB, (less_told, ((free,),))), True)
        self.assertIs(shows_never(JOB, ((), ((free_lot(JOB, FLAT, MILL, ()),),))), False)

    def test_papers_with_one_thing_wrong(self):
        chance = random.Random(5)
        for job in some_jobs(6, 25):
            paper = closure(job)
            gone = cubes_of(job[0]) - cubes_of(paper[0])
            if gone:
                more = union(paper[0], cube_at(chance.choice(sorted(gone))))
                self.assertIs(is_paper(job, (more, paper[1])), False)
                self.assertIs(shows_never(job, (more, paper[1])), False)
            outside = cube_at((9, 9, 9))
            self.assertIs(is_paper(job, (union(paper[0], outside), paper[1])), False)
            for s in range(len(job[5])):
                for t in range(len(job[4])):
                    lot = cubes_of(paper[1][s][t])
                    free = own_free(job, job[5][s], job[4][t], cubes_of(paper[0]))
                    no_home = solid_of(lot - {job[3][2]})
                    self.assertIs(is_paper(job, with_lot(paper, s, t, no_home)), False)
                    self.assertIs(is_paper(job, with_lot(paper, s, t, ())), False)
                    inner = lot - {job[3][2]}
                    if inner:
                        lacking = solid_of(lot - {chance.choice(sorted(inner))})
                        self.assertIs(is_paper(job, with_lot(paper, s, t, lacking)), False)
                    barred = beside(lot) - free
                    if barred:
                        more = solid_of(lot | {chance.choice(sorted(barred))})
                        self.assertIs(is_paper(job, with_lot(paper, s, t, more)), False)

    def test_lots_that_leave_standings_out(self):
        # Home alone would be a lot in which nothing is cut, but one may leave it.
        self.assertIs(is_paper(JOB, (STOCK, ((cube_at((0, 0, 4)),),))), False)
        self.assertIs(shows_never(JOB, (STOCK, ((cube_at((0, 0, 4)),),))), False)

    def test_lots_in_which_something_of_the_rest_is_cut(self):
        free = free_lot(JOB, FLAT, MILL, STOCK)
        self.assertIs(is_paper(JOB, (STOCK, ((free,),))), False)
        self.assertIs(is_paper(JOB, (WISHED, ((free_lot(JOB, FLAT, MILL, WISHED),),))), True)

    def test_things_that_are_no_papers(self):
        rest, lots = closure(JOB)
        lot = lots[0][0]
        for thing in (None, 5, (), [], "paper", (rest,), (rest, lots, 1), [rest, lots], (list(rest), lots), (None, lots),
                      (rest, None), (rest, ()), (rest, [*lots]), (rest, (list(lots[0]),)), (rest, ((),)),
                      (rest, (lots[0], lots[0])), (rest, ((lot, lot),)), (rest, ((list(lot),),)), (rest, ((None,),)),
                      (rest, (None,)), (rest, lots[0]), (((0, 1, ()),), lots), (True, lots)):
            self.assertIs(is_paper(JOB, thing), False)
            self.assertIs(shows_never(JOB, thing), False)

    def test_each_setup_and_tool_has_its_own_lot(self):
        second = ("second", 0, (0, 0, 1), ())
        short = ("short", box((0, 0, 0), (1, 1, 1)), box((0, 0, 1), (1, 1, 2)), 1)
        job = (*JOB[:4], (MILL, short), (FLAT, second))
        paper = closure(job)
        self.assertIs(is_paper(job, paper), True)
        self.assertEqual((len(paper[1]), len(paper[1][0]), len(paper[1][1])), (2, 2, 2))
        self.assertIs(is_paper(job, (paper[0], paper[1][::-1])), False)
        self.assertTrue(is_within(moved(paper[1][0][0], (0, 0, 1)), union(paper[1][1][0], box((-2, -2, 7), (7, 7, 8)))))
        self.assertEqual(placed(second, WISHED), moved(WISHED, (0, 0, 1)))


if __name__ == "__main__":
    unittest.main()
