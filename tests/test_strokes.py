"""Promise 22: strokes."""

import random
import unittest

from cubes import cubes_of, plus, random_solid, solid_of
from drawn import some_jobs
from shop import JOB, MILL, POCKET
from shopwhole.closure import closure, free_lot
from shopwhole.jobs import placed
from shopwhole.jobtexts import read_job
from shopwhole.lots import travel_lot
from shopwhole.solids import box, is_within, less, meet, swept, union
from shopwhole.strokes import strokes_for

DOT = box((0, 0, 0), (1, 1, 1))


def standings_of(stroke):
    (x, y, z), (end, *_) = stroke
    return [(number, y, z) for number in range(x, end + 1)]


class Strokes(unittest.TestCase):
    def assert_strokes(self, lot, cutter, stock):
        """All that can be taken is taken, by strokes in the lot of which each takes something that none ahead does."""
        strokes = strokes_for(lot, cutter, stock)
        self.assertIsInstance(strokes, list)
        cubes, inside, left = cubes_of(cutter), cubes_of(lot), cubes_of(stock)
        wanted = left - {plus(cube, at) for cube in cubes for at in inside}
        for stroke in strokes:
            self.assertIsInstance(stroke, tuple)
            begin, end = stroke
            self.assertEqual((type(begin), type(end), len(begin), len(end)), (tuple, tuple, 3, 3))
            self.assertLessEqual(begin[0], end[0])
            self.assertEqual(begin[1:], end[1:])
            standings = standings_of(stroke)
            self.assertLessEqual(set(standings), inside)
            taken = {plus(cube, at) for cube in cubes for at in standings}
            self.assertTrue(taken & left)
            left -= taken
        self.assertEqual(left, wanted)
        self.assertEqual(strokes_for(lot, cutter, stock), strokes)
        return strokes

    def test_drawn_lots_cutters_and_stocks(self):
        chance = random.Random(1)
        many = 0
        for _ in range(250):
            lot, cutter, stock = [random_solid(chance, *told)[0] for told in ((-2, 5, 9), (-1, 2, 6), (0, 5, 9))]
            if cutter != ():
                many += len(self.assert_strokes(lot, cutter, stock))
        self.assertGreater(many, 400)

    def test_lots_of_jobs(self):
        for job in some_jobs(21, 30):
            for setup in job[5]:
                for tool in job[4]:
                    lot = free_lot(job, setup, tool, job[0])
                    self.assert_strokes(lot, tool[1], placed(setup, job[0]))

    def test_none_for_nothing(self):
        lot = box((0, 0, 0), (3, 1, 1))
        self.assertEqual(strokes_for(lot, MILL[1], ()), [])
        self.assertEqual(strokes_for((), MILL[1], box((0, 0, 0), (9, 9, 9))), [])
        self.assertEqual(strokes_for(lot, MILL[1], box((0, 0, 1), (9, 9, 9))), [])
        self.assertEqual(strokes_for(lot, box((5, 0, 0), (6, 1, 1)), lot), [])

    def test_a_single_standing(self):
        self.assertEqual(strokes_for(box((0, 0, 0), (3, 1, 1)), DOT, box((1, 0, 0), (2, 1, 1))), [((1, 0, 0), (1, 0, 0))])
        self.assertEqual(len(self.assert_strokes(box((0, 0, 0), (9, 9, 9)), box((0, 0, 0), (9, 9, 9)), DOT)), 1)

    def test_a_broad_cutter_needs_few_rows(self):
        broad = box((0, 0, 0), (5, 5, 5))
        strokes = self.assert_strokes(box((-4, -4, -4), (20, 20, 20)), broad, box((0, 0, 0), (20, 20, 20)))
        self.assertEqual(len(strokes), 16)
        for begin, end in strokes:
            self.assertEqual(end[0] - begin[0], 15)

    def test_cutters_with_notches_and_of_parts(self):
        for cutter in (union(DOT, box((3, 0, 0), (4, 1, 1))), less(box((0, 0, 0), (3, 3, 3)), box((1, 0, 0), (2, 3, 2))),
                       union(box((0, 0, 0), (1, 1, 4)), box((-2, -1, 3), (3, 2, 4)))):
            self.assert_strokes(box((0, 0, 0), (6, 6, 4)), cutter, box((0, 0, 0), (9, 9, 9)))
            self.assert_strokes(less(box((0, 0, 0), (6, 6, 4)), box((2, 2, 0), (4, 4, 4))), cutter,
                                less(box((0, 0, 0), (9, 9, 9)), box((2, 0, 0), (3, 9, 9))))

    def test_a_lot_in_parts_along_x(self):
        lot = union(box((0, 0, 0), (2, 1, 1)), box((4, 0, 0), (6, 1, 1)))
        self.assertEqual(len(self.assert_strokes(lot, DOT, box((0, 0, 0), (9, 1, 1)))), 2)

    def test_stock_in_parts_within_one_row(self):
        stock = union(DOT, box((7, 0, 0), (8, 1, 1)))
        self.assertEqual(self.assert_strokes(box((-3, 0, 0), (12, 1, 1)), DOT, stock), [((0, 0, 0), (7, 0, 0))])

    def test_thousandths(self):
        job = read_job(POCKET)
        cutter = job[4][0][1]
        for lot in (closure(job)[1][0][0], travel_lot(job[3])):
            strokes = strokes_for(lot, cutter, job[0])
            self.assertLess(len(strokes), 60)
            left = job[0]
            for begin, end in strokes:
                stroke = box(begin, (end[0] + 1, end[1] + 1, end[2] + 1))
                self.assertTrue(is_within(stroke, lot))
                self.assertNotEqual(meet(left, swept(stroke, cutter)), ())
                left = less(left, swept(stroke, cutter))
            self.assertEqual(left, less(job[0], swept(lot, cutter)))

    def test_the_document_s_slot(self):
        lot = closure(JOB)[1][0][0]
        strokes = self.assert_strokes(lot, MILL[1], JOB[0])
        self.assertEqual(strokes, [((1, 1, 1), (2, 1, 1))])
        self.assertEqual(solid_of(standings_of(strokes[0])), box((1, 1, 1), (3, 2, 2)))


if __name__ == "__main__":
    unittest.main()
