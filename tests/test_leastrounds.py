"""Promise 35: least rounds."""

import itertools
import unittest

from cubes import cubes_of, flooded, plus
from drawn import some_jobs
from shop import CAVE, FLAT, JOB, NARROW, POCKET, changed
from shopwhole.closure import closure
from shopwhole.jobs import is_job, placed, taken_back
from shopwhole.jobtexts import read_job
from shopwhole.judge import is_program, judge
from shopwhole.leastrounds import is_least_round, least_program, way_of_round
from shopwhole.lots import cube_at
from shopwhole.plans import program_for
from shopwhole.solids import box, is_solid, less, union_of
from shopwhole.strokes import strokes_for
from shopwhole.ways import length_of, way_in


def slots(many):
    """A job with so many slots beside one another, each taken by a stroke of its own."""
    stock = box((0, 0, 0), (5, 2 * many + 1, 2))
    gaps = union_of([box((1 + k % 2, 2 * k + 1, 1), (4, 2 * k + 2, 2)) for k in range(many)])
    tool = ("t", box((0, 0, 0), (1, 1, 2)), box((0, 0, 2), (1, 1, 4)), 1)
    machine = ((-2, -2, 0), (8, 2 * many + 3, 6), (-1, -1, 5), 1, 5, 20)
    return (stock, less(stock, gaps), 0, machine, (tool,), (FLAT,))


def own_distances(lot):
    """A function for how far two standings are apart in a lot, None if there is no way."""
    cubes, known = cubes_of(lot), {}

    def between(one, other):
        if one not in known:
            known[one] = flooded(cubes, one)
        return known[one].get(other)
    return between


def strokes_as_done(told):
    """The strokes of a round as they are begun and left."""
    strokes, order = told[3:5]
    if order is None:
        return list(strokes)
    return [strokes[end // 2] if end % 2 == 0 else strokes[end // 2][::-1] for end in order]


def own_way(home, strokes, between):
    total, at = 0, home
    for begin, end in strokes:
        total, at = total + between(at, begin), end
    return total + between(at, home)


def all_ways(home, strokes, between):
    for row in itertools.permutations(strokes):
        for turned in itertools.product((1, -1), repeat=len(row)):
            yield own_way(home, [stroke[::way] for stroke, way in zip(row, turned)], between)


class Followed:
    """A program, gone through move by move."""

    def __init__(self, job, program):
        self.blocks, self.at = list(program), job[3][2]
        self.taken = {"setup": None, "tool": None}

    def go_to(self, standing):
        """The units of the moves up to a standing."""
        units = 0
        while self.at != standing:
            word, axis, to = self.blocks.pop(0)
            units += abs(to - self.at[axis])
            self.at = changed(self.at, axis, to)
        return units

    def take(self):
        while self.blocks and self.blocks[0][0] in ("setup", "tool"):
            word, name = self.blocks.pop(0)
            self.taken[word] = name


class Rounds(unittest.TestCase):
    def assert_rounds(self, job):
        """Good, leaving what program_for's does, by rounds that are least; the rounds."""
        told = least_program(job)
        self.assertEqual(least_program(job), told)
        plan = program_for(job)
        if plan[0] == "never":
            self.assertEqual(told, ("never", plan[1]))
            return ()
        word, program, rounds = told
        self.assertEqual(word, "made")
        self.assertIs(is_program(program), True)
        self.assertEqual(judge(job, program)[:2], ("good", judge(job, plan[1])[1]))
        followed, rest = Followed(job, program), job[0]
        for one in rounds:
            followed.take()
            rest = self.assert_round(job, one, followed, rest)
        followed.take()
        self.assertEqual((followed.blocks, rest), ([], closure(job)[0]))
        return rounds

    def assert_round(self, job, told, followed, rest):
        self.assertIsInstance(told, tuple)
        setup, tool, lot, strokes, order, heights = told
        self.assertEqual((followed.taken["setup"], followed.taken["tool"]), (job[5][setup][0], job[4][tool][0]))
        self.assertTrue(is_solid(lot))
        self.assertEqual(list(strokes), strokes_for(lot, job[4][tool][1], placed(job[5][setup], rest)))
        self.assertEqual((order is None, heights is None), (len(strokes) > 6, len(strokes) > 6))
        self.assertIs(is_least_round(job, told), True)
        self.assertIs(is_least_round(job, (*told[:3], list(strokes), order, heights)), True)
        home, between, way = job[3][2], own_distances(lot), 0
        for begin, end in strokes_as_done(told):
            ahead = followed.at
            units = followed.go_to(begin)
            self.assertEqual(units, between(ahead, begin))
            self.assertEqual(followed.go_to(end), abs(end[0] - begin[0]))
            way += units
        way += followed.go_to(home)
        self.assertEqual(way_of_round(job, told), way)
        self.assertEqual(own_way(home, strokes_as_done(told), between), way)
        if len(strokes) <= 3:
            self.assertEqual(way, min(all_ways(home, strokes, between)))
        if heights is not None:
            self.assertIsInstance(heights, tuple)
            self.assertEqual(dict(heights)[((), -1)], 0)
        cubes = {plus(cube, at) for cube in cubes_of(job[4][tool][1]) for at in cubes_of(lot)}
        stuff = placed(job[5][setup], rest)
        left = less(stuff, union_of([cube_at(cube) for cube in sorted(cubes & cubes_of(stuff))]))
        return taken_back(job[5][setup], left)

    def test_drawn_jobs(self):
        rounds = []
        for job in some_jobs(41, 60):
            rounds.extend(self.assert_rounds(changed(job, 2, 9)))
            rounds.extend(self.assert_rounds(changed(job, 2, 0)))
        self.assertGreater(len([told for told in rounds if 2 <= len(told[3]) <= 6]), 5)

    def test_up_to_six_strokes(self):
        for many in (1, 2, 3, 4, 6):
            (told,) = self.assert_rounds(slots(many))
            self.assertEqual(len(told[3]), many)
            self.assertEqual(sorted(end // 2 for end in told[4]), list(range(many)))

    def test_more_than_six_strokes(self):
        for many in (7, 9):
            (told,) = self.assert_rounds(slots(many))
            self.assertEqual((len(told[3]), told[4:]), (many, (None, None)))

    def test_the_order_is_least_where_the_first_one_is_not(self):
        job = slots(3)
        (told,) = least_program(job)[2]
        between = own_distances(told[2])
        ways = sorted(all_ways(job[3][2], told[3], between))
        self.assertLess(ways[0], ways[-1])
        self.assertEqual(way_of_round(job, told), ways[0])
        plainly = (*told[:4], None, None)
        self.assertEqual(way_of_round(job, plainly), own_way(job[3][2], told[3], between))
        for order in itertools.product(range(6), repeat=3):
            if sorted(end // 2 for end in order) == [0, 1, 2]:
                other = (*told[:4], order, told[5])
                way = own_way(job[3][2], strokes_as_done(other), between)
                self.assertEqual(way_of_round(job, other), way)
                self.assertIs(is_least_round(job, other), way == ways[0])

    def test_papers(self):
        for job in (CAVE, NARROW):
            self.assertEqual(least_program(job), ("never", closure(job)))

    def test_no_rounds(self):
        self.assertEqual(least_program(changed(JOB, 1, JOB[0])), ("made", (), ()))

    def test_thousandths(self):
        job = read_job(POCKET)
        word, program, rounds = least_program(job)
        self.assertEqual(judge(job, program)[:2], ("good", job[1]))
        self.assertEqual([is_least_round(job, told) for told in rounds], [True])
        (told,) = rounds
        strokes, at, way = strokes_as_done(told), job[3][2], 0
        for begin, end in strokes:
            way, at = way + length_of(way_in(told[2], at, begin)), end
        self.assertEqual(way_of_round(job, told), way + length_of(way_in(told[2], at, job[3][2])))


class Changed(unittest.TestCase):
    def setUp(self):
        self.job = slots(3)
        (self.told,) = least_program(self.job)[2]

    def assert_not_least(self, place, other):
        self.assertIs(is_least_round(self.job, changed(self.told, place, other)), False, (place, other))

    def test_orders(self):
        order = self.told[4]
        for other in (None, (), order[:2], (*order, 0), list(order), (0, 1, 2), (0, 2, 6), (-1, 2, 4), (0, 2, True), "024",
                      5, (order[0] ^ 1, *order[1:])):
            self.assert_not_least(4, other)

    def test_heights(self):
        heights = self.told[5]
        for other in (None, (), heights[1:], heights[:-1], list(heights), dict(heights), 5, "heights", (*heights, 5),
                      (*heights, ()), (*heights, (((0,), 0),)), (*heights, ([], 0)), (*heights, (([0], 0), 5)),
                      (*heights, (((3,), 6), 5)), (*heights, (((0,), 0), None)), (*heights, (((), -1), 1)),
                      (*heights, (((0,), 0), True)), (*heights, ({}, {}))):
            self.assert_not_least(5, other)
        for place, (state, height) in enumerate(heights):
            self.assert_not_least(5, changed(heights, place, (state, height + 1)))
            self.assert_not_least(5, heights[:place] + heights[place + 1:])
            self.assertIs(is_least_round(self.job, changed(self.told, 5, (*heights, (state, height)))), True)

    def test_strokes_and_lots(self):
        strokes = self.told[3]
        for other in (None, (), strokes[:2], strokes[1:], (*strokes, strokes[0]), (*strokes[:2], ((0, 0, 0), (0, 0, 0))),
                      (*strokes[:2], None), (*strokes[:2], ((1, 1), (2, 1))), (*strokes[:2], strokes[2][:1]),
                      (*strokes[:2], ((9, 9, 9), (9, 9, 9))), 5, {}):
            self.assert_not_least(3, other)
        self.assertIs(is_least_round(self.job, changed(self.told, 3, list(strokes))), True)
        for other in ((), None, 5, cube_at((0, 0, 0)), less(self.told[2], cube_at(self.job[3][2])),
                      less(self.told[2], cube_at(strokes[0][0]))):
            self.assert_not_least(2, other)
        # Ways that are longer: heights that are not as much longer show it no more.
        wall = box((-2, 2, -1), (8, 3, 7))
        self.assert_not_least(2, less(self.told[2], wall))

    def test_numbers(self):
        for other in (1, -1, None, "0", True, (0,)):
            self.assert_not_least(0, other)
            self.assert_not_least(1, other)

    def test_things_that_are_no_rounds(self):
        for thing in (None, 5, (), list(self.told), self.told[:5], (*self.told, 1), (None,) * 6, "round!"):
            self.assertIs(is_least_round(self.job, thing), False)

    def test_more_than_six_strokes(self):
        job = slots(7)
        (told,) = least_program(job)[2]
        order = tuple(range(0, 14, 2))
        self.assertIs(is_least_round(job, told), True)
        self.assertIs(is_least_round(job, changed(told, 4, order)), True)
        self.assertIs(is_least_round(job, changed(told, 5, ((((), -1), 0),))), True)
        self.assertIs(is_least_round(job, (*told[:4], order, ((((), -1), 0),))), False)
        self.assertIs(is_least_round(job, (*told[:4], order, ())), False)
        self.assertIs(is_least_round(job, (*told[:3], told[3][:6], None, None)), False)
        self.assertIs(is_least_round(job, (*told[:3], told[3][:6], order, None)), False)
        self.assertTrue(is_job(job))
        # Things that are no strokes within the lot, among as many.
        (begin, end), others = told[3][0], told[3][1:]
        for stroke in ((end, begin), (begin, changed(end, 1, end[1] + 2)), (begin, changed(end, 2, end[2] + 1)),
                       (begin, changed(end, 0, 99)), (begin, (*end, 1)), (begin, None), (None, end), (begin,),
                       (list(begin), end), (begin, changed(end, 0, "3")), (begin, end, end), begin,
                       ((1, 0, 1), (3, 0, 1))):
            self.assertIs(is_least_round(job, changed(told, 3, (stroke, *others))), False, stroke)
        self.assertIs(is_least_round(job, changed(told, 3, ((begin, begin), *others))), True)

    def test_no_way(self):
        lot = less(self.told[2], cube_at(self.told[3][0][0]))
        self.assertIsNone(way_of_round(self.job, changed(self.told, 2, lot)))


if __name__ == "__main__":
    unittest.main()
