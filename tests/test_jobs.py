"""Promise 15: what a job is, and where things stand in a setup."""

import random
import unittest

from cubes import random_point, random_solid
from shop import FLAT, JOB, MACHINE, MILL, STOCK, WISHED, changed, job_with_setup, job_with_tool
from shopwhole.errors import BadJob
from shopwhole.jobs import check_job, is_fine, is_job, placed, taken_back
from shopwhole.solids import box, less, moved, spread, union, union_of
from shopwhole.turns import turned

FAR = 999999999


def row_of_cubes(many):
    """A solid of so many boxes."""
    return union_of([box((2 * k, 0, 0), (2 * k + 1, 1, 1)) for k in range(many)])


class Taken(unittest.TestCase):
    def assert_taken(self, job):
        self.assertIsNone(check_job(job))
        self.assertIs(is_job(job), True)

    def test_ordinary_jobs(self):
        self.assert_taken(JOB)
        self.assert_taken(changed(JOB, 2, 5))
        self.assert_taken(changed(JOB, 1, STOCK))
        self.assert_taken(job_with_tool(changed(MILL, 2, ())))
        self.assert_taken(job_with_setup(("flat", 0, (0, 0, 0), box((4, 0, 0), (5, 3, 2)))))

    def test_eight_tools_and_setups(self):
        tools = tuple([changed(MILL, 0, f"t{k}") for k in range(8)])
        setups = tuple([changed(FLAT, 0, f"s{k}") for k in range(8)])
        self.assert_taken((*JOB[:4], tools, setups))

    def test_all_turns(self):
        for turn in range(24):
            setup = ("flat", turn, (-20, -20, -20), ())
            self.assert_taken(job_with_setup(setup))

    def test_ends_of_ranges(self):
        for ticks in (0, 999999):
            self.assert_taken(changed(JOB, 3, (*MACHINE[:3], ticks, ticks, ticks)))
            self.assert_taken(job_with_tool(changed(MILL, 3, ticks)))
        far = ((-FAR, -FAR, -FAR), (FAR, FAR, FAR), (0, 0, 4), 1, 5, 20)
        self.assert_taken(changed(JOB, 3, far))
        self.assert_taken(changed(JOB, 2, FAR))
        self.assert_taken(job_with_setup(("flat", 0, (-FAR, FAR, 0), ())))
        self.assert_taken(changed(changed(JOB, 0, box((0, 0, -FAR), (FAR, 3, 2))), 1, box((0, 0, -FAR), (1, 1, 2))))
        self.assert_taken(changed(JOB, 3, ((0, 0, 4), (0, 0, 4), (0, 0, 4), 1, 5, 20)))

    def test_names(self):
        for name in ("a", "z9_", "abcdefghijkl", "a___________", "xx", "boxes"):
            self.assert_taken(job_with_tool(changed(MILL, 0, name)))
            self.assert_taken(job_with_setup(changed(FLAT, 0, name)))

    def test_3000_boxes(self):
        stock = moved(row_of_cubes(3000), (2, 0, 0))
        self.assert_taken(changed(changed(JOB, 0, stock), 1, stock))


class Refused(unittest.TestCase):
    def assert_refused(self, job):
        with self.assertRaises(BadJob) as caught:
            check_job(job)
        self.assertIsInstance(caught.exception.name, str)
        self.assertIsInstance(caught.exception.why, str)
        self.assertIs(is_job(job), False)

    def test_things_that_are_no_jobs_at_all(self):
        for thing in (None, 0, True, "job", b"", [], (), {}, object(), list(JOB), JOB[:5], (*JOB, 1), (None,) * 6,
                      ((),) * 6, (0,) * 6, ("",) * 6, ([],) * 6, ({},) * 6):
            self.assert_refused(thing)

    def test_solids_that_are_none(self):
        bad = (None, 5, [], [(0, 1, ())], ((0, 1, ()),), ((0, 1, ((0, 1, ((0, True),)),)),),
               ((0, 1, ((0, 1, ((0, 1), (1, 2))),)),))
        for solid in bad:
            self.assert_refused(changed(JOB, 0, solid))
            self.assert_refused(changed(JOB, 1, solid))
            self.assert_refused(job_with_tool(changed(MILL, 1, solid)))
            self.assert_refused(job_with_tool(changed(MILL, 2, solid)))
            self.assert_refused(job_with_setup(changed(FLAT, 3, solid)))

    def test_solids_of_too_many_boxes(self):
        many = row_of_cubes(3001)
        self.assert_refused(changed(JOB, 0, union(many, STOCK)))
        self.assert_refused(changed(changed(JOB, 0, box((0, 0, 0), (9000, 3, 2))), 1, many))
        self.assert_refused(job_with_tool(changed(MILL, 1, moved(many, (0, 0, 10)))))
        self.assert_refused(job_with_tool(changed(MILL, 2, moved(many, (0, 0, 10)))))
        self.assert_refused(job_with_setup(changed(FLAT, 3, moved(many, (0, 0, -10)))))

    def test_solids_that_lie_too_far_off(self):
        for solid in (box((0, 0, 0), (FAR + 1, 1, 1)), box((0, -FAR - 1, 0), (1, 1, 1)), box((0, 0, 9), (1, 1, FAR + 1))):
            away = moved(solid, (0, 0, 10)) if solid[0][0] == 0 else solid
            self.assert_refused(changed(JOB, 0, union(solid, STOCK)))
            self.assert_refused(job_with_tool(changed(MILL, 1, away)))
            self.assert_refused(job_with_tool(changed(MILL, 2, away)))
        self.assert_refused(job_with_setup(changed(FLAT, 3, box((0, 0, -FAR - 1), (1, 1, -1)))))

    def test_wished(self):
        self.assert_refused(changed(JOB, 1, ()))
        self.assert_refused(changed(JOB, 1, box((0, 0, 0), (5, 3, 2))))
        self.assert_refused(changed(JOB, 1, box((0, 0, 2), (1, 1, 3))))
        self.assert_refused(changed(JOB, 0, ()))

    def test_allowance(self):
        for thing in (-1, True, None, "0", (0,), FAR + 1):
            self.assert_refused(changed(JOB, 2, thing))

    def test_machine(self):
        for thing in (None, (), list(MACHINE), MACHINE[:5], (*MACHINE, 1), "mill"):
            self.assert_refused(changed(JOB, 3, thing))
        for place in range(3):
            for thing in (None, (0, 0), (0, 0, 4, 0), [0, 0, 4], (0, 0, True), (0, 0, "4"), 4):
                self.assert_refused(changed(JOB, 3, changed(MACHINE, place, thing)))
        for axis in range(3):
            low = changed(MACHINE[0], axis, MACHINE[2][axis] + 1)
            high = changed(MACHINE[1], axis, MACHINE[2][axis] - 1)
            self.assert_refused(changed(JOB, 3, changed(MACHINE, 0, low)))
            self.assert_refused(changed(JOB, 3, changed(MACHINE, 1, high)))
            self.assert_refused(changed(JOB, 3, changed(MACHINE, 0, changed(MACHINE[0], axis, -FAR - 1))))
            self.assert_refused(changed(JOB, 3, changed(MACHINE, 1, changed(MACHINE[1], axis, FAR + 1))))
        for place in range(3, 6):
            for ticks in (-1, 1000000, True, None, "1"):
                self.assert_refused(changed(JOB, 3, changed(MACHINE, place, ticks)))

    def test_how_many_tools_and_setups(self):
        nine = tuple([changed(MILL, 0, f"t{k}") for k in range(9)])
        for thing in ((), [MILL], nine, None, MILL):
            self.assert_refused(changed(JOB, 4, thing))
        nine = tuple([changed(FLAT, 0, f"s{k}") for k in range(9)])
        for thing in ((), [FLAT], nine, None, FLAT):
            self.assert_refused(changed(JOB, 5, thing))

    def test_things_that_are_no_tools_or_setups(self):
        for thing in (None, (), list(MILL), MILL[:3], (*MILL, 1), "mill", 4):
            self.assert_refused(job_with_tool(thing))
        for thing in (None, (), list(FLAT), FLAT[:3], (*FLAT, 1), "flat", 4):
            self.assert_refused(job_with_setup(thing))

    def test_names(self):
        for name in ("", "A", "Mill", "1a", "_a", "a b", "a-b", "abcdefghijklm", "box", "x", "fixture", "let", None, 5,
                     ("a",), b"a", "mi\n", "m\u00e4", "\u0661a", "a\u0661"):
            self.assert_refused(job_with_tool(changed(MILL, 0, name)))
            self.assert_refused(job_with_setup(changed(FLAT, 0, name)))

    def test_names_told_twice(self):
        self.assert_refused(changed(JOB, 4, (MILL, MILL)))
        self.assert_refused(changed(JOB, 5, (FLAT, changed(FLAT, 1, 0))))
        self.assert_refused(job_with_setup(changed(FLAT, 0, "mill")))

    def test_cutters(self):
        self.assert_refused(job_with_tool(changed(MILL, 1, ())))
        self.assert_refused(job_with_tool(changed(MILL, 2, box((0, 0, 0), (1, 1, 3)))))
        for rate in (-1, 1000000, True, None):
            self.assert_refused(job_with_tool(changed(MILL, 3, rate)))

    def test_setups(self):
        for turn in (-1, 24, True, None, "0"):
            self.assert_refused(job_with_setup(changed(FLAT, 1, turn)))
        for by in (None, (0, 0), [0, 0, 0], (0, 0, False), (FAR + 1, 0, 0), (0, -FAR - 1, 0)):
            self.assert_refused(job_with_setup(changed(FLAT, 2, by)))
        self.assert_refused(job_with_setup(changed(FLAT, 3, box((3, 0, 0), (5, 3, 2)))))

    def test_stuff_at_home(self):
        low = changed(MACHINE, 2, (0, 0, 1))
        self.assert_refused(changed(JOB, 3, low))
        reaching = changed(MILL, 2, box((0, 0, -3), (1, 1, 0)))
        self.assert_refused(job_with_tool(reaching))
        self.assert_refused(job_with_setup(changed(FLAT, 3, box((0, 0, 4), (1, 1, 5)))))
        self.assert_refused(job_with_setup(changed(FLAT, 3, box((0, 0, 6), (1, 1, 7)))))
        self.assert_refused(job_with_setup(changed(FLAT, 2, (0, 0, 3))))
        self.assert_refused(changed(JOB, 5, (FLAT, ("second", 0, (0, 0, 3), ()))))
        self.assert_refused(changed(JOB, 4, (MILL, ("long", box((0, 0, -3), (1, 1, 0)), (), 1))))


class Placed(unittest.TestCase):
    def test_placed_is_turned_and_then_moved(self):
        chance = random.Random(1)
        for turn in range(24):
            solid, _ = random_solid(chance)
            setup = ("s", turn, random_point(chance), ())
            self.assertEqual(placed(setup, solid), moved(turned(solid, turn), setup[2]))
            self.assertEqual(taken_back(setup, placed(setup, solid)), solid)
            self.assertEqual(placed(setup, taken_back(setup, solid)), solid)

    def test_the_fixture_is_not_moved(self):
        setup = ("s", 1, (5, 6, 7), box((0, 0, 0), (1, 1, 1)))
        self.assertEqual(placed(setup, box((0, 0, 0), (1, 2, 3))), box((5, 4, 4), (6, 6, 7)))


class Fine(unittest.TestCase):
    def test_nothing_missing_and_no_more_than_allowed(self):
        for allowance in (0, 1, 2):
            job = changed(JOB, 2, allowance)
            self.assertIs(is_fine(job, WISHED), True)
            self.assertIs(is_fine(job, spread(WISHED, allowance)), True)
            self.assertIs(is_fine(job, spread(WISHED, allowance + 1)), False)
            self.assertIs(is_fine(job, less(WISHED, box((0, 0, 0), (1, 1, 1)))), False)
            self.assertIs(is_fine(job, ()), False)
        self.assertIs(is_fine(JOB, STOCK), False)
        self.assertIs(is_fine(changed(JOB, 2, 1), STOCK), True)


if __name__ == "__main__":
    unittest.main()
