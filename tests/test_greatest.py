"""Promise 34: the widest cutter, and the least stock."""

import random
import unittest

from drawn import some_jobs
from shop import CAVE, FLAT, JOB, MACHINE, MILL, STOCK, WISHED, changed
from shopwhole.closure import can_be_made, closure, free_lot, shows_never
from shopwhole.greatest import greatest_cutter, is_greatest, least_stock, with_cutter, with_stock
from shopwhole.jobs import is_job
from shopwhole.solids import box, is_within, less, moved, piece_with, union, union_of, volume

# A slot five wide, and home in a corner far from it: cutters up to five do it.
LONG = box((0, 0, 0), (12, 12, 4))
SLOT = (LONG, less(LONG, box((3, -1, 2), (8, 13, 4))), 0, ((-9, -9, 0), (14, 14, 9), (0, 0, 6), 1, 1, 1), (MILL,), (FLAT,))


class Cutters(unittest.TestCase):
    def assert_greatest(self, job, at, deep, most):
        told = greatest_cutter(job, at, deep, most)
        jobs = {wide: with_cutter(job, at, wide, deep) for wide in range(1, most + 1)}
        fine = [wide for wide, made in jobs.items() if is_job(made) and can_be_made(made)]
        wide, papers = told
        self.assertEqual(wide, max(fine, default=0))
        self.assertIsInstance(papers, tuple)
        self.assertEqual([number for number, _ in papers], [k for k in range(most, wide, -1) if is_job(jobs[k])])
        for number, paper in papers:
            self.assertIs(shows_never(jobs[number], paper), True)
        self.assertIs(is_greatest(job, at, deep, most, told), True)
        return wide

    def test_with_cutter(self):
        second = ("second", box((0, 0, 0), (2, 2, 2)), box((0, 0, 2), (1, 1, 3)), 7)
        job = changed(JOB, 4, (MILL, second))
        self.assertEqual(with_cutter(job, 1, 3, 5), changed(JOB, 4, (MILL, ("second", box((0, 0, 0), (3, 3, 5)), (), 7))))
        self.assertEqual(with_cutter(job, 0, 1, 1)[4][1], second)

    def test_the_document_s_job(self):
        self.assertEqual(self.assert_greatest(JOB, 0, 1, 2), 1)
        self.assertEqual(self.assert_greatest(JOB, 0, 1, 1), 1)
        self.assertEqual(self.assert_greatest(JOB, 0, 1, 5), 1)
        self.assertEqual(greatest_cutter(JOB, 0, 1, 1), (1, ()))

    def test_a_slot(self):
        for most in (1, 3, 5, 6, 9):
            self.assertEqual(self.assert_greatest(SLOT, 0, 2, most), min(most, 5))
        self.assertEqual(self.assert_greatest(SLOT, 0, 2, 100), 5)

    def test_none(self):
        self.assertEqual(self.assert_greatest(CAVE, 0, 1, 3), 0)
        papers = greatest_cutter(CAVE, 0, 1, 3)[1]
        for wide in (-1, -2, False, None, 1):
            self.assertIs(is_greatest(CAVE, 0, 1, 3, (wide, papers)), False)
        # None with which it is a job at all: at home it meets the stock, however narrow.
        low = (*JOB[:3], changed(MACHINE, 2, (1, 1, 0)), (("low", box((9, 9, 9), (10, 10, 10)), (), 1),), JOB[5])
        self.assertTrue(is_job(low))
        self.assertEqual(greatest_cutter(low, 0, 1, 4), (0, ()))
        self.assertIs(is_greatest(low, 0, 1, 4, (0, ())), True)
        self.assertIs(is_greatest(low, 0, 1, 4, (1, ())), False)

    def test_widths_with_which_it_is_no_job(self):
        # Home is three beside the stock: wider cutters meet it there.
        job = changed(SLOT, 3, ((-9, -9, 0), (14, 14, 9), (-3, 0, 2), 1, 1, 1))
        self.assertEqual(self.assert_greatest(job, 0, 2, 6), 3)
        self.assertEqual(greatest_cutter(job, 0, 2, 6)[1], ())
        whole = changed(job, 1, SLOT[0])
        self.assertEqual(self.assert_greatest(whole, 0, 2, 6), 3)
        for wide in (4, 5, 6):
            self.assertIs(can_be_made(with_cutter(whole, 0, wide, 2)), True)
            self.assertIs(is_greatest(whole, 0, 2, 6, (wide, ())), False)
        self.assertEqual(self.assert_greatest(changed(job, 1, less(SLOT[0], box((5, 0, 2), (7, 12, 4)))), 0, 2, 6), 2)

    def test_drawn_jobs(self):
        chance, wides = random.Random(1), []
        for job in some_jobs(131, 50):
            wides.append(self.assert_greatest(job, chance.randrange(len(job[4])), chance.randint(1, 3), chance.randint(1, 5)))
        self.assertGreater(len([wide for wide in wides if wide]), 10)
        self.assertGreater(wides.count(0), 2)

    def test_papers(self):
        told = greatest_cutter(SLOT, 0, 2, 8)
        self.assertEqual((told[0], [number for number, _ in told[1]]), (5, [8, 7, 6]))
        wide, papers = told

        def assert_not_taken(other):
            self.assertIs(is_greatest(SLOT, 0, 2, 8, other), False, other)

        for other in ((), (5,), None, 5, [5, papers], (5, list(papers)), (5, papers, 1), (True, papers), ("5", papers), (None, papers),
                      (5, papers[:-1]), (5, papers[1:]), (5, papers[::-1]), (5, (*papers, papers[0])), (5, ()), (5, dict(papers)),
                      (4, papers), (6, papers[:-1]), (6, papers), (8, ()), (9, ()), (0, papers), (-1, papers), (5, None)):
            assert_not_taken(other)
        for place, (number, paper) in enumerate(papers):
            for pair in ((number,), [number, paper], (number, paper, 1), (number + 1, paper), (number, None), (None, paper),
                         (number, (paper[0], ())), (number, list(paper)), (number, (SLOT[1], paper[1])), (number, papers[place - 1][1]),
                         (number, closure(SLOT)), None, (), (str(number), paper)):
                assert_not_taken((5, changed(papers, place, pair)))
        # Not by one less wide, even with a paper for what can be made.
        assert_not_taken((4, (*papers, (5, closure(with_cutter(SLOT, 0, 5, 2))))))
        self.assertIs(is_greatest(SLOT, 0, 2, 5, (5, ())), True)
        self.assertIs(is_greatest(SLOT, 0, 2, 7, (5, papers[1:])), True)

    def test_width_one_is_no_true(self):
        told = greatest_cutter(JOB, 0, 1, 2)
        self.assertIs(is_greatest(JOB, 0, 1, 2, told), True)
        self.assertIs(is_greatest(JOB, 0, 1, 2, (True, told[1])), False)
        self.assertIs(is_greatest(CAVE, 0, 1, 1, (0, ((True, closure(with_cutter(CAVE, 0, 1, 1))),))), False)

    def test_papers_of_others(self):
        # A smaller rest shows it as well, as long as it isn't allowed.
        made = with_cutter(SLOT, 0, 6, 2)
        corner = box((3, 0, 3), (4, 1, 4))
        lot = piece_with(free_lot(made, FLAT, made[4][0], corner), made[3][2])
        told = greatest_cutter(SLOT, 0, 2, 6)
        self.assertEqual(told[1][0][1][0] == corner, False)
        self.assertIs(is_greatest(SLOT, 0, 2, 6, (5, ((6, (corner, ((lot,),))),))), shows_never(made, (corner, ((lot,),))))
        self.assertIs(shows_never(made, (corner, ((lot,),))), True)


class Stocks(unittest.TestCase):
    def assert_least(self, job, stocks):
        told = least_stock(job, stocks)
        order = sorted(range(len(stocks)), key=lambda number: (volume(stocks[number]), number))
        jobs = [(number, with_stock(job, stocks[number])) for number in order if is_job(with_stock(job, stocks[number]))]
        fine = [number for number, made in jobs if can_be_made(made)]
        if not fine:
            self.assertIsNone(told)
            return None
        number, papers = told
        self.assertEqual(number, fine[0])
        self.assertIsInstance(papers, tuple)
        numbers = [other for other, _ in jobs]
        self.assertEqual([other for other, _ in papers], numbers[:numbers.index(number)])
        for other, paper in papers:
            self.assertIs(shows_never(with_stock(job, stocks[other]), paper), True)
        self.assertTrue(is_within(job[1], stocks[number]))
        return number, [other for other, _ in papers]

    def test_with_stock(self):
        self.assertEqual(with_stock(JOB, WISHED), changed(JOB, 0, WISHED))

    def test_by_hand(self):
        self.assertEqual(self.assert_least(JOB, [STOCK, WISHED]), (1, []))
        self.assertEqual(self.assert_least(JOB, [WISHED, STOCK]), (0, []))
        self.assertEqual(self.assert_least(JOB, [STOCK, STOCK, STOCK]), (0, []))
        self.assertIsNone(self.assert_least(JOB, []))

    def test_stocks_that_cannot_be_made_of(self):
        # A cube under the table's edge, to which the cutter doesn't come.
        under = [union(WISHED, box((0, 0, -1), (1, 1, 0))), union(WISHED, box((1, 0, -1), (2, 1, 0))),
                 union(WISHED, box((0, 0, -1), (2, 1, 0)))]
        self.assertEqual(self.assert_least(JOB, [*under, STOCK]), (3, [0, 1, 2]))
        self.assertEqual(self.assert_least(JOB, [STOCK, *under[::-1]]), (0, [2, 3]))
        self.assertIsNone(self.assert_least(JOB, under))
        # Equal volumes: the first of them.
        above = [union(WISHED, box((k, 0, 2), (k + 1, 1, 3))) for k in range(3)]
        self.assertEqual(self.assert_least(JOB, [under[0], *above]), (1, [0]))
        self.assertEqual(self.assert_least(JOB, [*above[::-1], under[0]]), (0, []))

    def test_stocks_without_the_wished_part(self):
        for other in ((), box((0, 0, 0), (1, 1, 1)), moved(WISHED, (0, 0, 1)), less(STOCK, box((0, 0, 0), (1, 1, 1)))):
            self.assertIsNone(self.assert_least(JOB, [other]))
            self.assertEqual(self.assert_least(JOB, [other, STOCK]), (1, []))

    def test_stocks_with_which_it_is_no_job(self):
        # At home the tool meets it, or the fixture does.
        tall = union(WISHED, box((0, 0, 2), (1, 1, 5)))
        self.assertEqual(self.assert_least(JOB, [tall, box((0, 0, 0), (5, 4, 2))]), (1, []))
        held = changed(JOB, 5, (changed(FLAT, 3, box((4, 0, 0), (5, 3, 1))),))
        wide = union(WISHED, box((4, 0, 0), (5, 1, 1)))
        self.assertTrue(is_job(held))
        self.assertEqual(self.assert_least(held, [wide, STOCK]), (1, []))
        many = union(STOCK, union_of([box((2 * x, 20 + 2 * y, 0), (2 * x + 1, 21 + 2 * y, 1)) for x in range(60) for y in range(60)]))
        self.assertIsNone(self.assert_least(JOB, [many]))

    def test_drawn_stocks(self):
        chance, found = random.Random(2), []
        for job in some_jobs(132, 100):
            stocks = [job[0]]
            for _ in range(chance.randint(3, 8)):
                low = tuple(chance.randint(-3, 4) for _ in range(3))
                part = box(low, tuple(k + chance.randint(1, 2) for k in low))
                stocks.append(chance.choice((union, union, less))(chance.choice((job[0], job[1])), part))
            # The part itself would always do.
            stocks = [stock for stock in stocks if stock != job[1] or chance.random() < 0.1]
            chance.shuffle(stocks)
            found.append(self.assert_least(job, stocks))
        self.assertGreater(len([told for told in found if told is not None and told[1]]), 4)
        self.assertGreater(found.count(None), 2)


if __name__ == "__main__":
    unittest.main()
