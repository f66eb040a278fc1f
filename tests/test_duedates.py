"""Promise 13: due times."""

import itertools
import random
import unittest

from shopwhole.duedates import are_jobs, is_least, lateness_of, least_lateness

JOBS = (("a", (4, 6), 5), ("b", (4, 5), 4), ("c", (3, None), 9))


def random_jobs(chance, many, machines, lacking):
    names = chance.sample(["a", "b", "c", "d", "e", "f", "", "A b"], many)
    return tuple((name, tuple(None if chance.random() < lacking else chance.randint(0, 6) for _ in range(machines)),
                  chance.randint(0, 12)) for name in names)


def all_plans(jobs, machines):
    names = [job[0] for job in jobs]
    for row in itertools.permutations(names):
        for cuts in itertools.combinations_with_replacement(range(len(names) + 1), machines - 1):
            ends = [0, *cuts, len(names)]
            yield tuple(row[one:other] for one, other in zip(ends, ends[1:]))


def own_lateness(jobs, plan):
    told = {name: (ticks, due) for name, ticks, due in jobs}
    out = []
    for machine, names in enumerate(plan):
        end = 0
        for name in names:
            ticks, due = told[name]
            if ticks[machine] is None:
                return None
            end += ticks[machine]
            out.append(end - due)
    return max(out)


class Jobs(unittest.TestCase):
    def test_things_that_are_jobs(self):
        chance = random.Random(1)
        for machines in (1, 2, 3):
            for many in range(1, 7):
                self.assertIs(are_jobs(random_jobs(chance, many, machines, 0.3), machines), True)
        self.assertIs(are_jobs((("a", (None, None), 0),), 2), True)
        self.assertIs(are_jobs((("a", (0,), 0), ("A", (10 ** 12,), 10 ** 12)), 1), True)

    def test_things_that_are_none(self):
        for thing in (None, 5, (), [], list(JOBS), (None,), (("a", (1, 2)),), (("a", (1, 2), 3, 4),), (["a", (1, 2), 3],),
                      (("a", [1, 2], 3),), (("a", (1,), 3),), (("a", (1, 2, 3), 3),), (("a", (1, -2), 3),),
                      (("a", (1, True), 3),), (("a", (1, "2"), 3),), (("a", (1, 2), -3),), (("a", (1, 2), None),),
                      (("a", (1, 2), True),), ((5, (1, 2), 3),), ((b"a", (1, 2), 3),), ((None, (1, 2), 3),),
                      (("a", (1, 2), 3), ("a", (2, 3), 4)), tuple((f"j{k}", (1, 2), 3) for k in range(7))):
            self.assertIs(are_jobs(thing, 2), False, thing)
        for machines in (0, 4, -1, None, True, "2"):
            self.assertIs(are_jobs((("a", (1,) * 4, 3),), machines), False)
        self.assertIs(are_jobs((("a", (1,) * 4, 3),), 4), False)
        self.assertIs(are_jobs((("a", (), 3),), 0), False)
        self.assertIs(are_jobs((("a", (1,), 3),), True), False)


class Lateness(unittest.TestCase):
    def test_plans(self):
        self.assertEqual(lateness_of(JOBS, 2, (("b", "a", "c"), ())), 3)
        self.assertEqual(lateness_of(JOBS, 2, (("c", "b"), ("a",))), 3)
        self.assertEqual(lateness_of((("a", (1,), 9),), 1, (("a",),)), -8)
        chance = random.Random(2)
        for _ in range(30):
            machines = chance.randint(1, 3)
            jobs = random_jobs(chance, 3, machines, 0.2)
            for plan in all_plans(jobs, machines):
                self.assertEqual(lateness_of(jobs, machines, plan), own_lateness(jobs, plan))

    def test_things_that_are_no_plans(self):
        for plan in (None, 5, (), (("a", "b", "c"),), (("a", "b", "c"), (), ()), (("a", "b"), ()), (("c", "b"), ("a", "a")),
                     (("c", "b", "a"), ("a",)), (("a", "b"), ("c",)), (("c", "b"), ("a", "d")), [("c", "b"), ("a",)],
                     (["c", "b"], ("a",)), (("c", "b"), "a"), (("c", "b"), (5,)), (("c", "b", None), ("a",))):
            self.assertIsNone(lateness_of(JOBS, 2, plan), plan)


class Least(unittest.TestCase):
    def test_least_against_all_plans(self):
        chance = random.Random(3)
        none = 0
        for _ in range(150):
            machines = chance.randint(1, 3)
            jobs = random_jobs(chance, chance.randint(1, 4), machines, chance.choice((0, 0.2, 0.5)))
            wanted = [own_lateness(jobs, plan) for plan in all_plans(jobs, machines)]
            wanted = min([late for late in wanted if late is not None], default=None)
            found = least_lateness(jobs, machines)
            if wanted is None:
                none += 1
                self.assertIsNone(found)
                continue
            late, plan, table = found
            self.assertEqual(late, wanted)
            self.assertEqual(lateness_of(jobs, machines, plan), late)
            self.assertIs(is_least(jobs, machines, plan, table), True)
        self.assertGreater(none, 5)

    def test_six_jobs(self):
        chance = random.Random(4)
        for _ in range(10):
            jobs = random_jobs(chance, 6, 3, 0.1)
            late, plan, table = least_lateness(jobs, 3)
            self.assertEqual(lateness_of(jobs, 3, plan), late)
            self.assertIs(is_least(jobs, 3, plan, table), True)
            self.assertEqual(least_lateness(jobs, 3), (late, plan, table))

    def test_nowhere_made(self):
        self.assertIsNone(least_lateness((("a", (None, None), 5),), 2))
        self.assertIsNone(least_lateness((("a", (1, None), 5), ("b", (None, None), 1), ("c", (2, 2), 7)), 2))
        table = ((((0, 0), None),), ())
        self.assertIs(is_least((("a", (None, None), 5),), 2, (("a",), ()), table), False)

    def test_taken_for_least_plans_alone(self):
        chance = random.Random(5)
        for _ in range(30):
            machines = chance.randint(1, 2)
            jobs = random_jobs(chance, 3, machines, 0.1)
            found = least_lateness(jobs, machines)
            if found is not None:
                for plan in all_plans(jobs, machines):
                    late = lateness_of(jobs, machines, plan)
                    is_one = late is not None and late == found[0]
                    self.assertIs(is_least(jobs, machines, plan, found[2]), is_one)


class Tables(unittest.TestCase):
    # One machine: by due times b ends at 4, a at 8, c at 11.
    ONE = (("a", (4,), 5), ("b", (4,), 4), ("c", (3,), 9))
    PLAN = (("b", "a", "c"),)
    TABLE = ((((0,), None),), (((4,), 0),), (((8,), 3),), (((11,), 3),))

    def test_tables_that_are_taken(self):
        self.assertIs(is_least(self.ONE, 1, self.PLAN, self.TABLE), True)
        self.assertIs(is_least(self.ONE, 1, (("b", "c", "a"),), self.TABLE), False)
        less_told = ((((0,), None),), (((4,), 0),), (((2,), 3),), (((0,), 3),))
        self.assertIs(is_least(self.ONE, 1, self.PLAN, less_told), True)
        more = (((0,), None), ((9,), None))
        self.assertIs(is_least(self.ONE, 1, self.PLAN, (more, (((4,), 0), ((13,), 9)), (((8,), 3), ((17,), 12)),
                                                        (((11,), 3), ((20,), 12)))), True)

    def test_changed_tables_are_not_taken(self):
        for place, states in ((0, ()), (0, (((1,), None),)), (0, (((0,), 0),)), (1, ()), (1, (((5,), 0),)),
                              (1, (((4,), 1),)), (2, ()), (2, (((9,), 3),)), (2, (((8,), 4),)), (3, ()),
                              (3, (((12,), 3),)), (3, (((11,), 4),)), (3, (((11,), 2),)),
                              (3, (((11,), 3), ((11,), 2))), (0, (((0,), None), ((0,), -1), ((0,), 4), ((5,), 1))[1:])):
            table = (*self.TABLE[:place], states, *self.TABLE[place + 1:])
            self.assertIs(is_least(self.ONE, 1, self.PLAN, table), False, (place, states))

    def test_jobs_stand_in_the_order_of_due_times_then_names(self):
        jobs = (("b", (1,), 5), ("a", (7,), 5))
        self.assertIs(is_least(jobs, 1, (("a", "b"),), ((((0,), None),), (((7,), 2),), (((8,), 3),))), True)
        self.assertIs(is_least(jobs, 1, (("a", "b"),), ((((0,), None),), (((7,), 1),), (((8,), 3),))), True)
        self.assertIs(is_least(jobs, 1, (("a", "b"),), ((((0,), None),), (((8,), 3),), (((8,), 3),))), False)
        jobs = (("b", (7,), 5), ("a", (1,), 5))
        self.assertIs(is_least(jobs, 1, (("a", "b"),), ((((0,), None),), (((7,), 2),), (((8,), 3),))), False)

    def test_each_machine_is_asked(self):
        late, plan, table = least_lateness(JOBS, 2)
        for place in range(1, 4):
            for state in table[place]:
                states = tuple([told for told in table[place] if told != state])
                changed = (*table[:place], states, *table[place + 1:])
                self.assertIs(is_least(JOBS, 2, plan, changed), False)

    def test_things_that_are_no_tables(self):
        for thing in (None, 5, (), [], list(self.TABLE), self.TABLE[:3], (*self.TABLE, ()),
                      (*self.TABLE[:3], [((11,), 3)]), (*self.TABLE[:3], ([(11,), 3],)), (*self.TABLE[:3], (((11,),),)),
                      (*self.TABLE[:3], ((11, 3),)), (*self.TABLE[:3], (((11, 0), 3),)), (*self.TABLE[:3], (((11,), "3"),)),
                      (*self.TABLE[:3], (((11,), None),)), (*self.TABLE[:3], (((True,), 3),)),
                      (*self.TABLE[:3], (None,)), (*self.TABLE[:3], None), ((((0,), None), ((0,), "0")), *self.TABLE[1:]),
                      ((((0,), None), ((-1,), None)), *self.TABLE[1:]), (*self.TABLE[:3], (((-1,), 3),))):
            self.assertIs(is_least(self.ONE, 1, self.PLAN, thing), False, thing)

    def test_things_that_are_no_plans(self):
        for plan in (None, (), (("a", "b"),), [("b", "a", "c")], (["b", "a", "c"],), (("b", "a", "c"), ())):
            self.assertIs(is_least(self.ONE, 1, plan, self.TABLE), False)


if __name__ == "__main__":
    unittest.main()
