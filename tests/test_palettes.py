"""Promise 42: many parts on one table."""

import random
import unittest

from cubes import cubes_of, plus, solid_of
from drawn import some_jobs
from longer import longer
from ownshop import is_in_travel, own_judge, standings_to, with_number
from shop import DOWN, FLAT, JOB, MACHINE, MILL, POCKET, PROGRAM, changed
from shopwhole.jobs import is_job
from shopwhole.jobtexts import read_job
from shopwhole.judge import is_good, judge
from shopwhole.palettes import is_clear, many_job, many_program
from shopwhole.plans import program_for
from shopwhole.solids import box, less, moved

WIDE = (*JOB[:3], ((-2, -2, 0), (16, 16, 6), (0, 0, 4), 1, 5, 20), *JOB[4:])
PLACES = ((0, 0, 0), (8, 0, 0))


def own_moves(program):
    """For each block of a tool, its name and the moves up to the next one."""
    out = []
    for block in program:
        if block[0] == "tool":
            out.append((block[1], []))
        elif len(block) == 3:
            out[-1][1].append(block)
    return out


def own_many_program(job, program, places):
    home, out = job[3][2], [("setup", job[5][0][0])]
    for name, moves in own_moves(program):
        out.append(("tool", name))
        for place in places:
            out += [("rapid", axis, home[axis] + place[axis]) for axis in (0, 1, 2) if place[axis]]
            out += [(word, axis, to + place[axis]) for word, axis, to in moves]
            out += [("rapid", axis, home[axis]) for axis in (2, 1, 0) if place[axis]]
    return tuple(out)


def own_standings(at, moves):
    out = [at]
    for _, axis, to in moves:
        out += standings_to(at, axis, to)
        at = with_number(at, axis, to)
    return out


def own_clear(job, program, places):
    """Whether it is clear, unit cube by unit cube."""
    if not places or not is_job(many_job(job, places)):
        return False
    home, setup = job[3][2], job[5][0]
    if not all(is_in_travel(job[3], plus(home, place)) for place in places):
        return False
    stuff = {plus(cube, setup[2]) for cube in cubes_of(job[0])} | cubes_of(setup[3])
    stuffs = [{plus(cube, place) for cube in stuff} for place in places]
    for name, moves in own_moves(program):
        tool = [told for told in job[4] if told[0] == name][0]
        whole = cubes_of(tool[1]) | cubes_of(tool[2])
        for number, place in enumerate(places):
            way = own_standings(home, [("rapid", axis, home[axis] + place[axis]) for axis in range(3) if place[axis]])
            if len(way) > 1 and any(plus(cube, at) in other for at in way for cube in whole for other in stuffs):
                return False
            there = own_standings(plus(home, place), [(word, axis, to + place[axis]) for word, axis, to in moves])
            if not all(is_in_travel(job[3], at) for at in there):
                return False
            others = [other for k, other in enumerate(stuffs) if k != number]
            if any(plus(cube, at) in other for at in there for cube in whole for other in others):
                return False
    return True


class Many(unittest.TestCase):
    def assert_many(self, job, program, places):
        """As told, and good if clear."""
        wanted = own_clear(job, program, places)
        self.assertIs(is_clear(job, program, places), wanted, (job, program, places))
        told = many_program(job, program, places)
        self.assertEqual(told, own_many_program(job, program, places))
        if wanted:
            many = many_job(job, places)
            self.assertTrue(is_job(many))
            word, stock, _ = judge(many, told)
            self.assertEqual(word, "good", (job, program, places))
            left = cubes_of(judge(job, program)[1])
            self.assertEqual(stock, solid_of({plus(cube, place) for cube in left for place in places}))
        return wanted

    def test_the_document_s_places(self):
        self.assertIs(self.assert_many(WIDE, PROGRAM, PLACES), True)
        self.assertIs(self.assert_many(WIDE, PROGRAM, ((0, 0, 0), (99, 0, 0))), False)

    def test_many_job(self):
        held = changed(WIDE, 5, (("flat", 0, (1, 0, 0), box((0, 0, 0), (1, 3, 1))),))
        many = many_job(held, PLACES)
        self.assertEqual(many[2:5], held[2:5])
        for place in (0, 1):
            self.assertEqual(cubes_of(many[place]), cubes_of(held[place]) | {plus(cube, (8, 0, 0)) for cube in cubes_of(held[place])})
        self.assertEqual(many[5], (("flat", 0, (1, 0, 0), solid_of(cubes_of(box((0, 0, 0), (1, 3, 1)))
                                                                  | cubes_of(box((8, 0, 0), (9, 3, 1))))),))
        self.assertEqual(many_job(JOB, ((0, 0, 0),)), JOB)
        self.assertEqual(many_job(JOB, ((1, 2, 3),))[0], moved(JOB[0], (1, 2, 3)))

    def test_many_program(self):
        self.assertEqual(many_program(WIDE, PROGRAM, ((0, 0, 0),)), PROGRAM)
        self.assertEqual(many_program(WIDE, PROGRAM, ((8, 0, -1), (0, 7, 0))), (
            ("setup", "flat"), ("tool", "mill"), ("rapid", 0, 8), ("rapid", 2, 3), ("rapid", 0, 9), ("rapid", 1, 1), ("rapid", 2, 1),
            ("cut", 2, 0), ("cut", 0, 10), ("rapid", 2, 3), ("rapid", 0, 8), ("rapid", 1, 0), ("rapid", 2, 4), ("rapid", 0, 0),
            ("rapid", 1, 7), ("rapid", 0, 1), ("rapid", 1, 8), ("rapid", 2, 2), ("cut", 2, 1), ("cut", 0, 2), ("rapid", 2, 4),
            ("rapid", 0, 0), ("rapid", 1, 7), ("rapid", 1, 0)))
        self.assertEqual(many_program(WIDE, (), PLACES), (("setup", "flat"),))
        # Rests and setups are no moves.
        told = (("rest", 3), ("tool", "mill"), ("setup", "flat"), ("rest", 0), *PROGRAM[2:5], ("rest", 5), *PROGRAM[5:], ("setup", "flat"))
        self.assertEqual(many_program(WIDE, told, PLACES), many_program(WIDE, PROGRAM, PLACES))

    def test_places_that_are_clear(self):
        for places in (((0, 0, 0),), ((8, 0, 0),), ((0, 0, 0), (0, 8, 0)), ((8, 8, 0), (0, 8, 0), (8, 0, 0), (0, 0, 0)),
                       ((0, 0, 0), (4, 0, 0), (8, 0, 0), (12, 0, 0)), ((1, 0, 0), (0, 3, 1)),
                       # One in the other, but nothing that is cut.
                       ((0, 0, 0), (3, 0, 0))):
            self.assertIs(self.assert_many(WIDE, PROGRAM, places), True, places)

    def test_places_that_are_not(self):
        for places in ((), ((0, 0, 0), (0, 0, 0)), ((0, 0, 0), (2, 0, 0)), ((0, 0, 0), (1, 1, 0)), ((0, 0, 0), (0, 1, 0)),
                       ((0, 0, 0), (17, 0, 0)), ((0, 0, 0), (-3, 0, 0)), ((0, 0, 0), (0, 0, 3)), ((0, 0, 0), (0, 0, -5)),
                       # Home is in the travel there, not so all moves.
                       ((0, 0, 0), (15, 0, 0)), ((0, 16, 0),), ((0, 0, -2),),
                       # Over the other part on the way, and at home.
                       ((0, 0, 0), (0, 0, 2)), ((0, 0, 0), (8, 0, 2), (8, 0, 0)), ((8, 0, 0), (4, 0, 3), (0, 0, 0))):
            self.assertIs(self.assert_many(WIDE, PROGRAM, places), False, places)

    def test_tools_in_the_way_of_other_parts(self):
        long = changed(MILL, 2, box((0, 0, 1), (1, 1, 3)))
        for reach in (1, 2, 3):
            # An arm aside, low over the neighbour.
            tool = changed(long, 2, box((-4, 0, 0), (0, 1, 1)))
            job = changed(changed(WIDE, 4, (tool,)), 3, ((-2, -2, 0), (16, 16, 9), (0, 0, 4 + reach), 1, 1, 1))
            job = changed(job, 1, less(job[0], box((0, 1, 1), (2, 2, 2))))
            program = (("setup", "flat"), ("tool", "mill"), ("rapid", 1, 1), ("rapid", 2, 2), ("cut", 2, 1), ("cut", 0, 1), ("rapid", 2, 2),
                       ("rapid", 0, 0), ("rapid", 2, 4 + reach), ("rapid", 1, 0))
            for apart in range(5, 10):
                self.assert_many(job, program, ((0, 0, 0), (apart, 0, 0)))
                self.assert_many(job, program, ((apart, 0, 0), (0, 0, 0)))
            self.assertTrue(is_good(job, program))
            self.assertFalse(self.assert_many(job, program, ((0, 0, 0), (5, 0, 0))))
            self.assertTrue(self.assert_many(job, program, ((0, 0, 0), (9, 0, 0))))

    def test_fixtures(self):
        held = changed(WIDE, 5, (changed(FLAT, 3, box((5, 0, 0), (6, 3, 5))),))
        self.assertTrue(is_job(held))
        self.assertIs(self.assert_many(held, PROGRAM, ((0, 0, 0),)), True)
        # It stands on the way to the right, as high as home.
        self.assertIs(self.assert_many(held, PROGRAM, PLACES), False)
        self.assertIs(self.assert_many(held, PROGRAM, ((0, 0, 0), (0, 8, 0))), True)

    def test_several_tools(self):
        second = ("second", box((0, 0, 0), (1, 2, 1)), (), 3)
        job = changed(WIDE, 4, (MILL, second))
        program = (*PROGRAM, ("tool", "second"), ("rapid", 1, 3), ("rapid", 2, 2), ("rapid", 2, 4), ("rapid", 1, 0), ("tool", "mill"))
        self.assertTrue(is_good(job, program))
        self.assertIs(self.assert_many(job, program, PLACES), True)
        self.assertIs(self.assert_many(job, program, ((0, 0, 0), (0, 8, 0))), True)
        self.assertIs(self.assert_many(job, program, ((0, 0, 0), (0, 3, 0))), True)
        # A tool that the program doesn't take is in nobody's way.
        huge = ("huge", box((0, 0, 0), (9, 9, 9)), (), 3)
        self.assertIs(self.assert_many(changed(WIDE, 4, (MILL, huge)), PROGRAM, ((0, 0, 0), (4, 0, 0))), True)

    def test_no_tools(self):
        job = changed(WIDE, 1, WIDE[0])
        for program in ((), (("rest", 5),), (("setup", "flat"),)):
            self.assertIs(self.assert_many(job, program, PLACES), True)
            self.assertIs(self.assert_many(job, program, ((0, 0, 0), (17, 0, 0))), False)

    def test_drawn_jobs(self):
        chance, told = random.Random(1), []
        for job in some_jobs(151, 150):
            setup = (job[5][0][0], 0, (chance.randint(0, 1), chance.randint(0, 1), 0), chance.choice(((), (), box((-1, 1, 0), (0, 3, 2)))))
            low, high, home = job[3][:3]
            job = (*job[:2], 9, (low, (high[0] + 9, high[1] + 9, high[2] + 2), (home[0], home[1], home[2] + 2), 1, 1, 1), job[4], (setup,))
            if not is_job(job):
                continue
            program = longer(chance, job, program_for(job)[1])
            for _ in range(3):
                places = [chance.choice(((0, 0, 0), (7, 0, 0), (0, 8, 0), (chance.randint(-1, 9), chance.randint(-1, 9), chance.choice((0, 0, 1)))))
                          for _ in range(chance.randint(1, 3))]
                told.append(self.assert_many(job, program, tuple(places)))
        self.assertGreater(min(told.count(True), told.count(False)), 60)

    def test_good_by_own_judge(self):
        many, told = many_job(WIDE, PLACES), many_program(WIDE, PROGRAM, PLACES)
        self.assertEqual(own_judge(many, told)[:2], ("good", cubes_of(many[1])))
        self.assertEqual(DOWN[0], told[0])
        self.assertEqual(MACHINE[2], many[3][2])

    def test_thousandths(self):
        job = read_job(POCKET.replace("to 80,80,60", "to 300,300,60"))
        program = program_for(job)[1]
        places = tuple([(60000 * x, 50000 * y, 0) for x in range(3) for y in range(3)])
        self.assertIs(is_clear(job, program, places), True)
        many = many_job(job, places)
        self.assertEqual(judge(many, many_program(job, program, places))[:2], ("good", many[1]))
        self.assertIs(is_clear(job, program, ((0, 0, 0), (29999, 0, 0))), False)
        self.assertIs(is_clear(job, program, ((0, 0, 0), (280001, 0, 0))), False)


if __name__ == "__main__":
    unittest.main()
