"""Promise 10: jobs as texts."""

import itertools
import random
import unittest

from cubes import random_solid
from shop import FLAT, JOB, MACHINE, MILL, POCKET, changed, job_with_setup, job_with_tool
from shopwhole.errors import BadJob, BadText
from shopwhole.jobs import is_job
from shopwhole.jobtexts import job_text, read_job
from shopwhole.solids import box, boxes_of, less, moved, spread, union_of

LINES = ("stock { box 0,0,0 to 4,3,2 }", "part { box 0,0,0 to 4,3,2\n cut box 1,1,1 to 3,2,2 }", "allowance 0.5",
         "machine from -2,-2,0 to 6,6,6 home 0,0,4 rapid 1 change 5 clamp 20",
         "tool mill rate 2 cutter { box 0,0,0 to 1,1,1 } holder { box 0,0,1 to 1,1,3 }", "setup flat turn 0 at 0,0,0")


def larger(solid):
    """A solid a thousand times as large: as texts tell millimetres."""
    return union_of([box(tuple(1000 * k for k in low), tuple(1000 * k for k in high)) for low, high in boxes_of(solid)])


STOCK = larger(JOB[0])
WISHED = larger(JOB[1])
TRAVEL = ((-2000, -2000, 0), (6000, 6000, 6000), (0, 0, 4000), 1, 5, 20)
TOOL = ("mill", larger(MILL[1]), larger(MILL[2]), 2)
WANTED = (STOCK, WISHED, 500, TRAVEL, (TOOL,), (FLAT,))


def without(place):
    return [*LINES[:place], *LINES[place + 1:]]


class Read(unittest.TestCase):
    def assert_wrong(self, text, line, column):
        with self.assertRaises(BadText, msg=text) as caught:
            read_job(text)
        self.assertEqual((caught.exception.line, caught.exception.column), (line, column), text)

    def assert_bad(self, text):
        with self.assertRaises(BadJob, msg=text):
            read_job(text)

    def test_the_pocket(self):
        block = box((0, 0, 0), (40000, 30000, 20000))
        wanted = (block, less(block, box((10000, 10000, 12000), (30000, 20000, 20000))), 0,
                  ((-20000, -20000, 0), (80000, 80000, 60000), (0, 0, 40000), 1, 50, 200),
                  (("mill", box((0, 0, 0), (5000, 5000, 10000)), box((-5000, -5000, 10000), (10000, 10000, 30000)), 4),),
                  (("flat", 0, (0, 0, 0), ()),))
        self.assertEqual(read_job(POCKET), wanted)

    def test_lines_in_any_order(self):
        for lines in itertools.permutations(LINES):
            self.assertEqual(read_job("\n".join(lines)), WANTED)
        self.assertEqual(read_job("\n\n# a job\n" + " # next\n\n".join(LINES) + "\n\n"), WANTED)

    def test_without_an_allowance(self):
        self.assertEqual(read_job("\n".join(without(2))), changed(WANTED, 2, 0))

    def test_fixtures_and_holders_may_lack(self):
        lines = [*LINES[:4], "tool bare rate 0 cutter { box 0,0,0 to 1,1,1 }",
                 "setup held turn 5 at -1,2.5,0 fixture { box 1,1,-9 to 2,2,-8 }"]
        wanted = (("bare", box((0, 0, 0), (1000, 1000, 1000)), (), 0),)
        setup = ("held", 5, (-1000, 2500, 0), box((1000, 1000, -9000), (2000, 2000, -8000)))
        self.assertEqual(read_job("\n".join(lines)), (*WANTED[:4], wanted, (setup,)))

    def test_tools_and_setups_stay_in_their_order(self):
        more = ["setup second turn 1 at 0,0,-9", "tool b rate 1 cutter { box 0,0,0 to 1,1,1 }",
                "setup a turn 2 at 0,0,-9", "tool a1 rate 1 cutter { box 0,0,0 to 1,1,1 }"]
        job = read_job("\n".join([*LINES, *more]))
        self.assertEqual([tool[0] for tool in job[4]], ["mill", "b", "a1"])
        self.assertEqual([setup[0] for setup in job[5]], ["flat", "second", "a"])

    def test_numbers_and_shapes_are_told_ahead(self):
        lines = ["let w = 1", *LINES[:4], "shape c { box 0,0,0 to w,w,w }", "tool mill rate 2 * w cutter { c } holder "
                 "{ at 0,0,w { c\n at 0,0,w { c } } }", LINES[5], "let mill = 3", "shape flat { }"]
        self.assertEqual(read_job("\n".join(lines)), WANTED)

    def test_no_string(self):
        for thing in (None, 5, b"", JOB, list(LINES)):
            self.assert_wrong(thing, 0, 0)

    def test_lines_that_lack(self):
        end = len(LINES[5]) + 1
        for place in (0, 1, 3):
            text = "\n".join(without(place))
            lines = text.count("\n") + 1
            self.assert_wrong(text, lines, end)
            self.assert_wrong(text + "  # end", lines, end + 7)
            self.assert_wrong(text + "\n\n", lines + 2, 1)
        self.assert_wrong("", 1, 1)
        self.assert_wrong("\n".join(LINES[4:]), 2, end)

    def test_no_tool_or_no_setup_is_no_job(self):
        self.assert_bad("\n".join(without(4)))
        self.assert_bad("\n".join(without(5)))

    def test_lines_told_twice(self):
        text = "\n".join(LINES)
        for line in LINES[:4]:
            self.assert_wrong(text + "\n  " + line, 8, 3)
        self.assert_bad(text + "\n" + LINES[4])
        self.assert_bad(text + "\n" + LINES[5])
        self.assert_bad(text + "\nsetup mill turn 0 at 0,0,0")

    def test_names_of_tools_and_setups(self):
        for ahead, line, column in (("let mill = 1\n", LINES[4], 6), ("shape flat { }\n", LINES[5], 7)):
            self.assert_wrong(ahead + line, 2, column)
        for word in ("box", "x", "tool", "setup", "5", "{", "Mill"):
            self.assert_wrong("tool " + word + " rate 2 cutter { }", 1, 6)
            self.assert_wrong("setup " + word + " turn 0 at 0,0,0", 1, 7)
        for name in ("_mill", "a_very_long_1"):
            self.assert_bad("\n".join([*without(4), LINES[4].replace("mill", name)]))
            self.assert_bad("\n".join([*without(5), LINES[5].replace("flat", name)]))

    def test_what_goes_on_wrong(self):
        for text, line, column in (
                ("foo", 1, 1), ("{ }", 1, 1), ("box 0,0,0 to 1,1,1", 1, 1), ("cutter { }", 1, 1), ("stock", 1, 6),
                ("stock { } part { }", 1, 11), ("stock\n{ }", 1, 6), ("part 5", 1, 6), ("allowance { }", 1, 11),
                ("allowance 1 mm", 1, 13), ("machine 0,0,0", 1, 9), ("machine from 0,0 to", 1, 18),
                ("machine from 0,0,0 home", 1, 20), ("machine from 0,0,0 to 1,1,1 rapid", 1, 29),
                ("machine from 0,0,0 to 1,1,1 home 0,0,0", 1, 39),
                ("machine from 0,0,0 to 1,1,1 home 0,0,0 change 1", 1, 40),
                ("machine from 0,0,0 to 1,1,1 home 0,0,0 rapid 1 change 1", 1, 56),
                ("machine from 0,0,0 to 1,1,1 home 0,0,0 rapid 1 change 1 clamp 1 rapid 1", 1, 65),
                ("tool", 1, 5), ("tool a", 1, 7), ("tool a cutter { }", 1, 8), ("tool a rate 1", 1, 14),
                ("tool a rate 1 { }", 1, 15), ("tool a rate 1 holder { }", 1, 15),
                ("tool a rate 1 cutter { }\nholder { }", 2, 1), ("tool a rate 1 cutter { } holder", 1, 32),
                ("tool a rate 1 cutter { } fixture { }", 1, 26), ("setup a at 0,0,0", 1, 9), ("setup a turn 0", 1, 15),
                ("setup a turn 0 at 0,0", 1, 22), ("setup a turn 0 at 0,0,0 holder { }", 1, 25),
                ("setup a turn 0 at 0,0,0 fixture", 1, 32), ("setup a turn 0 at 0,0,0\nfixture { }", 2, 1),
                ("let a = 1 stock { }", 1, 11), ("stock { foot }", 1, 9), ("\tstock { }", 1, 1)):
            self.assert_wrong(text, line, column)
            self.assert_wrong("# one\n\n" + text + "\nfoo", line + 2, column)

    def test_counts_and_lengths(self):
        machine = "machine from 0,0,0 to 1,1,1 home 0,0,0 rapid R change C clamp L"
        good = machine.replace("R", "0").replace("C", "0").replace("L", "0")
        for count in ("-1", "1000 * 1000", "0.5", "1/3"):
            self.assert_wrong(machine.replace("R", count), 1, 46)
            self.assert_wrong(good.replace("change 0", "change " + count), 1, 55)
            self.assert_wrong(good.replace("clamp 0", "clamp " + count), 1, 63)
            self.assert_wrong("tool a rate " + count + " cutter { }", 1, 13)
        for count in ("24", "-1", "0.5"):
            self.assert_wrong("setup a turn " + count + " at 0,0,0", 1, 14)
        for length in ("-1", "-0.001", "1/3", "1 - 2"):
            self.assert_wrong("allowance " + length, 1, 11)
        self.assert_wrong("setup a turn 0 at 0,1/7,0", 1, 21)
        self.assert_wrong("machine from 0,0,0 to 1,1,1 / 9 home 0,0,0", 1, 27)
        ends = read_job("\n".join([*LINES[:3], LINES[3].replace("rapid 1 change 5 clamp 20", "rapid 999999 change 0 clamp "
                                                              "1000 * 999 + 999"), *LINES[4:]]))
        self.assertEqual(ends[3][3:], (999999, 0, 999999))

    def test_the_text_is_looked_at_ahead_of_the_job(self):
        # A part out of the stock, and behind it a line that is wrong.
        lines = [LINES[0], "part { box 0,0,0 to 5,3,2 }", *LINES[2:]]
        self.assert_bad("\n".join(lines))
        self.assert_wrong("\n".join([*lines, "foo"]), 7, 1)
        self.assert_wrong("\n".join(lines[1:]), 5, len(LINES[5]) + 1)

    def test_jobs_that_are_none(self):
        for place, line in ((1, "part { }"), (1, "part { box 0,0,0 to 4,3,3 }"), (2, "allowance 1000 * 1000"),
                            (3, LINES[3].replace("home 0,0,4", "home 0,0,7")),
                            (3, LINES[3].replace("home 0,0,4", "home 0,0,1")),
                            (3, LINES[3].replace("to 6,6,6", "to 6,6,1000 * 1000")),
                            (4, "tool mill rate 2 cutter { }"),
                            (4, "tool mill rate 2 cutter { box 0,0,0 to 1,1,1 } holder { box 0,0,0 to 1,1,3 }"),
                            (5, LINES[5] + " fixture { box 0,0,0 to 1,1,1 }"),
                            (5, "setup flat turn 0 at 0,0,3")):
            self.assert_bad("\n".join(changed(LINES, place, line)))
        many = [LINES[4].replace("mill", f"t{k}") for k in range(8)]
        self.assertEqual(len(read_job("\n".join([*without(4), *many]))[4]), 8)
        self.assert_bad("\n".join([*LINES, *many]))


class Written(unittest.TestCase):
    def test_read_as_the_job(self):
        held = ("held", 7, (-5, 6, -9000000), box((0, 0, 7), (1, 2, 900)))
        more = ("t_2", box((0, 0, 0), (7, 1, 1001)), (), 0)
        for job in (JOB, WANTED, read_job(POCKET), changed(JOB, 2, 999999999), changed(JOB, 5, (FLAT, held)),
                    changed(JOB, 4, (more, MILL)), job_with_tool(changed(MILL, 2, ())),
                    changed(JOB, 3, ((-999999999,) * 3, (999999999,) * 3, (0, 0, 4), 999999, 0, 999999))):
            self.assertTrue(is_job(job))
            self.assertEqual(read_job(job_text(job)), job)

    def test_read_as_random_jobs(self):
        chance = random.Random(3)
        for _ in range(40):
            solid, _ = random_solid(chance, 0, 5, 6)
            stock = spread(solid, chance.randint(0, 2))
            setup = ("s", chance.randrange(24), (0, 0, -100), moved(box((0, 0, 0), (5, 5, 5)), (0, 0, -300)))
            job = (stock, solid, chance.randint(0, 3), MACHINE, (MILL,), (setup, FLAT))
            if is_job(job):
                self.assertEqual(read_job(job_text(job)), job)
            job = changed(job_with_setup(setup), 2, chance.randint(0, 10 ** 6))
            self.assertTrue(is_job(job))
            self.assertEqual(read_job(job_text(job)), job)


if __name__ == "__main__":
    unittest.main()
