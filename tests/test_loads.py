"""Promise 33: loads."""

import random
import unittest

from cubes import cubes_of, plus, random_point, random_solid, solid_of
from drawn import some_jobs
from longer import longer
from ownshop import OwnMachine, standings_to
from shop import JOB, MILL, POCKET, PROGRAM, STOCK, changed
from shopwhole.jobtexts import read_job
from shopwhole.loads import load_of, loads_hold, loads_of
from shopwhole.plans import program_for
from shopwhole.solids import box, less, union


def own_load(cubes, cutter, start, axis, to):
    """The most of a step, unit cube by unit cube, and what is left."""
    most, left = 0, set(cubes)
    for number, standing in enumerate(standings_to(start, axis, to)):
        met = {plus(cube, standing) for cube in cutter} & left
        left -= met
        if number > 0:
            most = max(most, len(met))
    return most, left


class Loads(unittest.TestCase):
    def assert_load(self, stock, cutter, start, axis, to):
        most, left = own_load(cubes_of(stock), cubes_of(cutter), start, axis, to)
        self.assertEqual(load_of(stock, cutter, start, axis, to), (most, solid_of(left)), (stock, cutter, start, axis, to))
        return most

    def test_the_document_s_move(self):
        self.assertEqual(load_of(STOCK, box((0, 0, 0), (2, 2, 2)), (-2, 0, 0), 0, 4), (4, box((0, 2, 0), (4, 3, 2))))

    def test_moves_by_hand(self):
        steps = union(box((0, 0, 0), (3, 1, 1)), union(box((1, 0, 0), (3, 2, 1)), box((2, 0, 0), (3, 3, 4))))
        cutter = box((0, 0, 0), (1, 4, 4))
        self.assertEqual([load_of(steps, cutter, (-1, 0, 0), 0, to)[0] for to in (-1, 0, 1, 2, 9)], [0, 1, 2, 12, 12])
        self.assertEqual([load_of(steps, cutter, (5, 0, 0), 0, to)[0] for to in (5, 3, 2, 1, -9)], [0, 0, 12, 12, 12])
        self.assertEqual(load_of(steps, cutter, (9, 9, 9), 1, 20), (0, steps))
        self.assertEqual(load_of((), cutter, (0, 0, 0), 1, 20), (0, ()))

    def test_what_is_at_the_start_is_taken_already(self):
        cube = box((0, 0, 0), (5, 5, 5))
        self.assertEqual(load_of(cube, box((0, 0, 0), (2, 2, 2)), (0, 0, 0), 0, 0), (0, less(cube, box((0, 0, 0), (2, 2, 2)))))
        self.assertEqual(load_of(cube, box((0, 0, 0), (2, 2, 2)), (0, 0, 0), 0, 1), (4, less(cube, box((0, 0, 0), (3, 2, 2)))))

    def test_drawn_moves(self):
        chance, loads = random.Random(1), []
        for _ in range(700):
            stock, cutter = random_solid(chance, 0, 8, 6)[0], random_solid(chance, -1, 3, 4)[0]
            start, axis = random_point(chance, -4, 9), chance.randrange(3)
            for to in (chance.randint(-5, 12), start[axis] + chance.randint(-9, 9), start[axis]):
                if cutter != ():
                    loads.append(self.assert_load(stock, cutter, start, axis, to))
        self.assertGreater(len(set(loads)), 7)

    def test_both_ways_along_each_axis(self):
        chance = random.Random(2)
        # A fork, whose prongs take behind one another what stands apart.
        fork = union(box((0, 0, 0), (1, 1, 1)), union(box((3, 3, 3), (4, 5, 6)), box((0, 3, 1), (2, 4, 2))))
        for _ in range(30):
            stock = random_solid(chance, 0, 9, 9)[0]
            for axis in range(3):
                for ends in ((-9, 9), (9, -9)):
                    start = tuple(ends[0] if k == axis else chance.randint(-3, 5) for k in range(3))
                    self.assert_load(stock, fork, start, axis, ends[1])

    def test_thousandths(self):
        stock = box((0, 0, 0), (40000, 30000, 20000))
        cutter = box((0, 0, 0), (5000, 5000, 10000))
        most, left = load_of(stock, cutter, (-6000, 0, 15000), 0, 50000)
        self.assertEqual((most, left), (5000 * 5000, less(stock, box((0, 0, 15000), (40000, 5000, 20000)))))
        wider = union(cutter, box((-1000, -1000, 10000), (7000, 7000, 12000)))
        self.assertEqual(load_of(stock, wider, (-8000, 0, 9000), 0, 999999999)[0], 5000 * 10000 + (6000 + 1000) * 1000 + 0)


class Programs(unittest.TestCase):
    def test_the_document_s_program(self):
        self.assertEqual(loads_of(JOB, PROGRAM), [0, 0, 0, 0, 0, 1, 1, 0, 0, 0])
        for limits, wanted in (((0,), False), ((1,), True), ((None,), True), ((9,), True)):
            self.assertIs(loads_hold(JOB, PROGRAM, limits), wanted)
        self.assertEqual(loads_of(JOB, ()), [])
        self.assertIs(loads_hold(JOB, (), (0,)), True)

    def test_drawn_programs(self):
        chance, held = random.Random(3), []
        for job in some_jobs(121, 60):
            job = changed(job, 2, 9)
            program = longer(chance, job, program_for(job)[1])
            machine, wanted, most = OwnMachine(job), [], [0] * len(job[4])
            for block in program:
                load = 0
                if block[0] == "cut":
                    for standing in standings_to(machine.standing, *block[1:])[1:]:
                        many = len(machine.rest)
                        machine.step(True, standing)
                        load = max(load, many - len(machine.rest))
                    most[machine.tool] = max(most[machine.tool], load)
                else:
                    machine.do(block)
                wanted.append(load)
            self.assertEqual(loads_of(job, program), wanted)
            self.assertIs(loads_hold(job, program, tuple(most)), True)
            for tool in range(len(most)):
                for limit, is_held in ((None, True), (most[tool] + 1, True), (most[tool] - 1, False)):
                    if limit != -1:
                        self.assertIs(loads_hold(job, program, changed(tuple(most), tool, limit)), is_held)
                        held.append(is_held)
        self.assertGreater(held.count(False), 30)

    def test_limits_of_each_tool(self):
        wide = ("wide", box((0, 0, 0), (2, 1, 1)), (), 1)
        job = (*JOB[:4], (MILL, wide), JOB[5])
        program = (*PROGRAM[:1], ("tool", "wide"), *PROGRAM[2:5], ("cut", 2, 1), ("rapid", 2, 4), ("rapid", 0, 0), ("rapid", 1, 0),
                   *PROGRAM[1:])
        self.assertEqual(loads_of(job, program)[5], 2)
        for limits, wanted in (((0, 2), True), ((0, 1), False), ((None, 1), False), ((None, None), True), ((5, None), True)):
            self.assertIs(loads_hold(job, program, limits), wanted)

    def test_the_pocket(self):
        job = read_job(POCKET)
        program = program_for(job)[1]
        loads = loads_of(job, program)
        self.assertEqual(len(loads), len(program))
        self.assertTrue(0 < max(loads) <= 5000 * 8000)


if __name__ == "__main__":
    unittest.main()
