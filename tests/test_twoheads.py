"""Promise 40: two heads on one table."""

import random
import unittest

from cubes import cubes_of, solid_of
from owntwo import all_ends, is_home_free, own_judge_two, own_run_two
from shop import FLAT, JOB, MACHINE, MILL, PROGRAM, STOCK, WISHED, changed
from shopwhole.jobs import is_job
from shopwhole.plans import program_for
from shopwhole.solids import box, less, union, union_of
from shopwhole.twoheads import are_programs, judge_two, run_two, with_meets

OTHER = ((-2, -2, 0), (16, 6, 6), (12, 0, 4), 1, 5, 20)
ALONE = PROGRAM[1:]
FAR = (("tool", "mill"), ("rapid", 0, 14), ("rapid", 0, 12))
MEET = ("meet", 1)

# A long block with a notch near each end; the second head's home is at the far end.
LONG = box((0, 0, 0), (9, 3, 2))
LEFT, RIGHT = box((1, 1, 1), (3, 2, 2)), box((6, 1, 1), (8, 2, 2))
TWO = (LONG, less(LONG, union(LEFT, RIGHT)), 0, ((-2, -2, 0), (11, 6, 6), (0, 0, 4), 1, 5, 20), (MILL,), (FLAT,))
FAR_SIDE = ((-2, -2, 0), (11, 6, 6), (8, 0, 4), 1, 5, 20)
BACK = (("rapid", 2, 4), ("rapid", 1, 0))
DO_LEFT = (("tool", "mill"), ("rapid", 0, 1), ("rapid", 1, 1), ("cut", 2, 1), ("cut", 0, 2), *BACK, ("rapid", 0, 0))
DO_RIGHT = (("tool", "mill"), ("rapid", 0, 7), ("rapid", 1, 1), ("cut", 2, 1), ("cut", 0, 6), *BACK, ("rapid", 0, 8))
DO_LEFT_FAR = (("tool", "mill"), ("rapid", 0, 2), ("rapid", 1, 1), ("cut", 2, 1), ("cut", 0, 1), *BACK, ("rapid", 0, 8))
DO_RIGHT_NEAR = (("tool", "mill"), ("rapid", 0, 6), ("rapid", 1, 1), ("cut", 2, 1), ("cut", 0, 7), *BACK, ("rapid", 0, 0))


class Forms(unittest.TestCase):
    def test_programs(self):
        meets = (MEET, ("meet", 5), ("meet", 9))
        for pair in (((), ()), (ALONE, FAR), (ALONE, ()), ((), FAR), ((MEET,), (MEET,)), ((*ALONE, MEET), (MEET, *FAR)),
                     (meets, meets), ((MEET, ("rapid", 0, 1), ("meet", 2)), (("cut", 0, 1), MEET, ("meet", 2))),
                     ((("meet", -3), ("meet", 0)), (("meet", -3), ("meet", 0))), ((("tool", "nothing"),), (("cut", 2, 10 ** 12),))):
            self.assertIs(are_programs(pair), True, pair)

    def test_things_that_are_no_programs(self):
        for thing in ((), (ALONE,), (ALONE, FAR, FAR), [ALONE, FAR], (list(ALONE), FAR), (ALONE, list(FAR)), None, 5, "ab", ALONE,
                      (ALONE, None), (ALONE, "cut"), (ALONE, {}), {0: ALONE, 1: FAR},
                      # Meetings that are unlike, or don't ascend.
                      ((MEET,), ()), ((), (MEET,)), ((MEET,), (("meet", 2),)), ((MEET, MEET), (MEET, MEET)),
                      ((("meet", 2), MEET), (("meet", 2), MEET)), ((MEET, ("meet", 2)), (("meet", 2), MEET)),
                      ((MEET, ("meet", 2)), (MEET,)), ((MEET, ("meet", 2)), (MEET, ("meet", 3)))):
            self.assertIs(are_programs(thing), False, thing)
            self.assertEqual(judge_two(JOB, OTHER, 0, thing), ("bad", 0, "form"))
        for block in (("setup", "flat"), ("rest", 5), ("rest", 0), ("meet",), ("meet", True), ("meet", "1"), ("meet", 1, 2), ("meet", None),
                      ("rapid", 3, 1), ("cut", 0), ("cut", True, 1), ("tool", 5), ("tool",), [("cut", 0, 1)], ["cut", 0, 1], None, 5, "meet",
                      ("call", "p", 1), ()):
            for pair in (((block,), ()), ((), (block,)), ((*ALONE, block), FAR), (ALONE, (*FAR, block)), ((block,), (block,))):
                self.assertIs(are_programs(pair), False, block)
                self.assertEqual(judge_two(JOB, OTHER, 0, pair), ("bad", 0, "form"))


class Judge(unittest.TestCase):
    def assert_bad(self, part, programs, job=TWO, machine=FAR_SIDE, at=0, is_heads=False):
        told = judge_two(job, machine, at, programs)
        self.assertEqual(told[:2], ("bad", part), told)
        self.assertEqual(len(told), 3)
        self.assertEqual(told[2] == "heads", is_heads)
        self.assertNotEqual(told[2], "form")
        wanted = own_judge_two(job, machine, at, programs)
        self.assertEqual((wanted[:2], wanted[2] == "heads"), (("bad", part), is_heads))

    def assert_good(self, programs, job=TWO, machine=FAR_SIDE, at=0):
        told = judge_two(job, machine, at, programs)
        self.assertEqual(told[0], "good", told)
        self.assertEqual(len(told), 2)
        self.assertEqual(("good", cubes_of(told[1])), own_judge_two(job, machine, at, programs))

    def test_the_document_s_pair(self):
        self.assertEqual(judge_two(JOB, OTHER, 0, (ALONE, FAR)), ("good", WISHED))
        self.assert_good((ALONE, FAR), JOB, OTHER)

    def test_good_pairs(self):
        self.assert_good((DO_LEFT, DO_RIGHT))
        self.assert_good(((*DO_LEFT, MEET), (MEET, *DO_RIGHT)))
        self.assert_good(((MEET, *DO_LEFT), (*DO_RIGHT, MEET)))
        self.assert_good(((*DO_LEFT, ("tool", "mill")), (("tool", "mill"), *DO_RIGHT)))
        self.assert_good(((*DO_LEFT[:4], MEET, *DO_LEFT[4:], ("meet", 7)), (*DO_RIGHT[:2], MEET, *DO_RIGHT[2:], ("meet", 7))))
        # One of them has all the work.
        self.assert_good(((*DO_LEFT, *DO_RIGHT_NEAR[1:]), ()))
        self.assert_good(((), (*DO_RIGHT, *DO_LEFT_FAR[1:])))
        self.assert_good(((), ()), changed(TWO, 1, LONG))

    def test_blocks_that_are_not_let_by(self):
        for place in range(len(DO_LEFT)):
            for block in (("tool", "saw"), ("rapid", 0, 99), ("cut", 2, -1)):
                left, right = (*DO_LEFT[:place], block, *DO_LEFT[place:]), (*DO_RIGHT[:place], block, *DO_RIGHT[place:])
                self.assert_bad(0, (left, DO_RIGHT))
                self.assert_bad(0, (DO_LEFT, right))
                self.assert_bad(1, ((MEET, *left), (MEET, *DO_RIGHT)))
                self.assert_bad(1, ((MEET, *DO_LEFT), (*DO_RIGHT[:1], MEET, *right[1:]) if place else (MEET, *right)))
                self.assert_bad(0, ((*left, MEET), (MEET, *DO_RIGHT)))

    def test_each_thing_that_is_asked_of_a_head(self):
        # A move ahead of a tool; a tool that isn't taken at home; the travel; rapid into stock; what is wished.
        self.assert_bad(0, (DO_LEFT[1:], DO_RIGHT))
        self.assert_bad(0, (DO_LEFT, DO_RIGHT[1:]))
        self.assert_bad(0, ((*DO_LEFT[:2], ("tool", "mill"), *DO_LEFT[2:]), DO_RIGHT))
        self.assert_bad(0, (DO_LEFT, (*DO_RIGHT[:3], ("tool", "mill"), *DO_RIGHT[3:])))
        self.assert_bad(0, ((*DO_LEFT, ("rapid", 0, -3), ("rapid", 0, 0)), DO_RIGHT))
        self.assert_bad(0, (DO_LEFT, (*DO_RIGHT, ("rapid", 0, 12), ("rapid", 0, 8))))
        self.assert_bad(0, (changed(DO_LEFT, 3, ("rapid", 2, 1)), DO_RIGHT))
        self.assert_bad(0, (DO_LEFT, changed(DO_RIGHT, 3, ("cut", 2, 0))))
        # Each head has its own travel and home.
        wider = changed(FAR_SIDE, 1, (12, 6, 6))
        self.assert_good((DO_LEFT, (*DO_RIGHT, ("rapid", 0, 12), ("rapid", 0, 8))), TWO, wider)
        self.assert_bad(0, ((*DO_LEFT, ("rapid", 0, 12), ("rapid", 0, 0)), ()), TWO, wider)
        # The holder: over the first cut's wall.
        thick = ("mill", MILL[1], box((1, 0, 0), (2, 1, 3)), 2)
        self.assert_bad(0, (DO_LEFT, DO_RIGHT), changed(TWO, 4, (thick,)))

    def test_fixtures(self):
        held = changed(TWO, 5, (changed(FLAT, 3, box((4, 0, 2), (5, 3, 3))),))
        self.assert_good((DO_LEFT, DO_RIGHT), held)
        low = (("tool", "mill"), ("rapid", 1, 1), ("rapid", 2, 2), ("rapid", 0, 3), ("rapid", 0, 7), ("rapid", 2, 4), *DO_LEFT[-2:])
        self.assert_bad(0, (low, DO_RIGHT), held)
        self.assert_bad(1, ((MEET, *low), (MEET, *DO_RIGHT)), held)

    def test_the_second_head_s_home(self):
        # There a tool may meet the stock, or the fixture: it is not taken.
        low = changed(FAR_SIDE, 2, (8, 0, 1))
        self.assert_bad(0, (DO_LEFT, (("tool", "mill"),)), TWO, low)
        self.assert_bad(1, ((*DO_LEFT, MEET), (MEET, ("tool", "mill"))), TWO, low)
        held = changed(TWO, 5, (changed(FLAT, 3, box((8, 0, 5), (9, 1, 6))),))
        self.assertTrue(is_job(held))
        self.assert_bad(0, (DO_LEFT, DO_RIGHT), held)
        self.assert_bad(0, ((*DO_LEFT, *DO_RIGHT_NEAR[1:]), (("tool", "mill"),)), held)
        self.assert_good(((*DO_LEFT, *DO_RIGHT_NEAR[1:]), ()), held)
        # In a slot that the other head cut in the part ahead, it is.
        slot = less(LONG, box((1, 1, 1), (9, 2, 2)))
        job, inside = changed(TWO, 1, slot), changed(FAR_SIDE, 2, (8, 1, 1))
        cut = (("tool", "mill"), ("rapid", 0, 1), ("rapid", 1, 1), ("cut", 2, 1), ("cut", 0, 8), ("rapid", 2, 4), ("rapid", 1, 0),
               ("rapid", 0, 0))
        self.assert_good(((*cut, MEET), (MEET, ("tool", "mill"))), job, inside)
        self.assert_bad(0, ((*cut, MEET), (("tool", "mill"), MEET)), job, inside)

    def test_as_if_the_other_head_cut_nothing(self):
        # The second one goes where the first one cuts: only behind a meeting.
        right = (*DO_RIGHT[:5], ("rapid", 2, 2), ("rapid", 0, 1), ("rapid", 2, 1), ("rapid", 2, 2), ("rapid", 0, 6), *DO_RIGHT[5:])
        self.assert_good(((*DO_LEFT, MEET), (MEET, *right)))
        self.assert_bad(0, (DO_LEFT, right))

    def test_heads_that_meet(self):
        self.assert_bad(0, (DO_LEFT, DO_LEFT_FAR), is_heads=True)
        self.assert_bad(0, (DO_LEFT, (*DO_RIGHT, *DO_LEFT_FAR[1:])), is_heads=True)
        self.assert_bad(1, ((MEET, *DO_LEFT), (MEET, *DO_RIGHT, *DO_LEFT_FAR[1:])), is_heads=True)
        # Where they stand at a part's beginning, in it, though no block of theirs is in it.
        above = (*DO_RIGHT[:3], MEET, ("rapid", 0, 1), ("rapid", 0, 7), ("meet", 2), *DO_RIGHT[3:])
        self.assert_bad(1, ((*DO_LEFT[:3], MEET, ("meet", 2), *DO_LEFT[3:]), above), is_heads=True)
        self.assert_good(((MEET, ("meet", 2), *DO_LEFT), above))
        # A tool at home is in the way of the other one.
        home = (*DO_RIGHT[:1], ("rapid", 0, 0), ("rapid", 0, 8), *DO_RIGHT[1:])
        self.assert_bad(0, (DO_LEFT, home), is_heads=True)
        self.assert_bad(1, ((*DO_LEFT, MEET), (MEET, *home)), is_heads=True)
        self.assert_good(((MEET, *DO_LEFT), (*home, MEET)))
        # A holder as well.
        tall = ("mill", MILL[1], box((0, 0, 1), (6, 1, 2)), 2)
        self.assertTrue(is_job(changed(TWO, 4, (tall,))))
        up = (("tool", "mill"), ("rapid", 2, 5), ("rapid", 0, 2), ("rapid", 0, 0), ("rapid", 2, 4))
        level = changed(FAR_SIDE, 2, (8, 0, 6))
        self.assert_good((up, (("tool", "mill"),)), changed(changed(TWO, 1, LONG), 4, (MILL,)), level)
        self.assert_bad(0, (changed(up, 1, ("rapid", 2, 6)), (("tool", "mill"),)), changed(changed(TWO, 1, LONG), 4, (tall,)),
                        changed(level, 2, (7, 0, 6)), is_heads=True)

    def test_the_end(self):
        self.assert_bad(1, (DO_LEFT[:-1], DO_RIGHT))
        self.assert_bad(1, (DO_LEFT, DO_RIGHT[:-1]))
        self.assert_bad(1, (DO_LEFT, ()))
        self.assert_bad(2, ((*DO_LEFT, MEET), (MEET,)))
        self.assert_bad(3, ((*DO_LEFT[:-1], MEET, ("meet", 2)), (MEET, ("meet", 2), *DO_RIGHT)))
        self.assert_good((DO_LEFT, ()), changed(TWO, 2, 9))

    def test_setups_that_turn(self):
        over = ("over", 1, (0, 3, 2), ())
        job = (*changed(TWO, 1, less(LONG, union(box((1, 1, 0), (3, 2, 1)), box((6, 1, 0), (8, 2, 1)))))[:5], (FLAT, over))
        self.assertTrue(is_job(job))
        self.assert_good((DO_LEFT, DO_RIGHT), job, FAR_SIDE, 1)
        self.assert_bad(0, (DO_LEFT, DO_RIGHT), job, FAR_SIDE, 0)
        self.assertEqual(judge_two(job, FAR_SIDE, 1, (DO_LEFT, DO_RIGHT)), ("good", job[1]))


class Run(unittest.TestCase):
    def assert_run(self, programs, turns, job=TWO, machine=FAR_SIDE, at=0):
        told, stock = run_two(job, machine, at, programs, turns)
        wanted, rest = own_run_two(job, machine, at, programs, turns)
        self.assertEqual((told[:2], stock), (wanted, solid_of(rest)), (programs, turns))
        self.assertEqual(len(told), 1 if told[0] == "done" else 3)
        return told

    def test_the_document_s_pair(self):
        self.assertEqual(run_two(JOB, OTHER, 0, (ALONE, FAR), [1, 0, 1, 1]), (("done",), WISHED))

    def test_orders_of_a_good_pair(self):
        chance = random.Random(1)
        for pair in ((DO_LEFT, DO_RIGHT), ((*DO_LEFT, MEET), (MEET, *DO_RIGHT)), ((MEET, *DO_LEFT), (*DO_RIGHT, MEET))):
            for turns in ([], [0] * 99, [1] * 99, [0, 1] * 40, [1, 1, 0] * 9, *[[chance.randrange(2) for _ in range(60)] for _ in range(20)]):
                self.assertEqual(self.assert_run(pair, turns), ("done",))

    def test_turns(self):
        # The first head stands in the way of the second one but for a while.
        there, by = (("tool", "mill"), ("rapid", 0, 4), ("rapid", 0, 0)), (("tool", "mill"), ("rapid", 0, 3), ("rapid", 0, 8))
        for turns, wanted in (([], ("done",)), ([1] * 11, ("done",)), ([0] * 9 + [1] * 9, ("done",)), ([0] * 5 + [1] * 5, ("alarm", 1)),
                              ([1] * 6 + [0] * 5, ("alarm", 0)), ([0, 1] * 9, ("alarm", 1)), ([0] * 7 + [1] * 6, ("done",))):
            self.assertEqual(self.assert_run((there, by), turns)[:2], wanted, turns)

    def test_who_waits(self):
        pair = ((("tool", "mill"), MEET, ("rapid", 0, 2), ("rapid", 0, 0)), (("tool", "mill"), ("rapid", 0, 2), ("rapid", 0, 8), MEET))
        for turns in ([], [0] * 50, [1] * 50, [0, 1] * 30):
            self.assertEqual(self.assert_run(pair, turns), ("done",))
        # Without the meeting one waits for nothing.
        free = (pair[0][:1] + pair[0][2:], pair[1][:-1])
        for turns, wanted in (([], "done"), ([0] * 50, "done"), ([1] * 50, "done"), ([0] * 3 + [1] * 9, "alarm"), ([0, 1] * 30, "done")):
            self.assertEqual(self.assert_run(free, turns)[0], wanted, turns)

    def test_alarms(self):
        for place in range(len(DO_LEFT)):
            for block in (("tool", "saw"), ("rapid", 0, 99), ("cut", 0, -9)):
                for turns in ([], [1] * 3, [0, 1] * 20):
                    pair = ((*DO_LEFT[:place], block, *DO_LEFT[place:]), DO_RIGHT)
                    self.assertEqual(self.assert_run(pair, turns)[0], "alarm")
                    pair = (DO_LEFT, (*DO_RIGHT[:place], block, *DO_RIGHT[place:]))
                    self.assertEqual(self.assert_run(pair, turns)[0], "alarm")

    def test_tools_taken_where_something_stands(self):
        # The other head's tool stands at home, or the stock, or the fixture.
        there = (("tool", "mill"), ("rapid", 0, 8), ("rapid", 0, 0))
        for turns, wanted in (([0] * 9 + [1], ("alarm", 1)), ([0] * 10 + [1], ("done",)), ([1] + [0] * 9, ("alarm", 0)), ([], ("done",))):
            self.assertEqual(self.assert_run((there, (("tool", "mill"),)), turns)[:2], wanted)
        for home in ((8, 0, 1), (4, 2, 0)):
            self.assertEqual(self.assert_run(((), (("tool", "mill"),)), [], TWO, changed(FAR_SIDE, 2, home))[:2], ("alarm", 1))
        held = changed(TWO, 5, (changed(FLAT, 3, box((8, 0, 5), (9, 1, 6))),))
        self.assertEqual(self.assert_run((DO_LEFT, DO_RIGHT), [], held)[:2], ("alarm", 1))
        self.assertEqual(self.assert_run((DO_LEFT, (("tool", "mill"),)), [], held)[:2], ("alarm", 1))

    def test_what_the_one_cuts_the_other_finds_gone(self):
        right = (*DO_RIGHT[:5], ("rapid", 2, 2), ("rapid", 0, 1), ("rapid", 2, 1), ("rapid", 2, 2), ("rapid", 0, 6), *DO_RIGHT[5:])
        self.assertEqual(self.assert_run((DO_LEFT, right), []), ("done",))
        self.assertEqual(self.assert_run(((), right), [])[:2], ("alarm", 1))


class Drawn(unittest.TestCase):
    def drawn_case(self, chance):
        """A job, a second machine, and a pair of programs that may be good."""
        stock = box((0, 0, 0), (chance.randint(5, 7), 2, 2))
        wide = stock[0][2][0][2][0][1]
        left = box((chance.choice((0, 0, 1)), chance.randint(0, 1), 1), (chance.randint(1, 2), 2, 2))
        right = box((wide - chance.randint(1, 2), chance.randint(0, 1), 1), (wide, 2, 2))
        tools = (("mill", box((0, 0, 0), (1, 1, 1)), chance.choice(((), box((0, 0, 1), (1, 1, 2)), box((-1, 0, 1), (1, 1, 2)))), 1),)
        if chance.random() < 0.4:
            tools = (*tools, ("wide", box((0, 0, 0), (chance.randint(1, 2), 2, 1)), (), 1))
        fixture = chance.choice(((), (), box((3, 0, 2), (4, 1, 4)), box((2, -1, 0), (3, 0, 2))))
        near = ((-1, -1, 0), (wide, 3, 3), (chance.choice((-1, 0)), 0, 3), 1, 1, 1)
        far = ((-1, -1, 0), (wide, 3, 3), (chance.choice((wide - 1, wide)), 0, 3), 1, 1, 1)
        jobs = [(stock, less(stock, part), 0, machine, tools, (("s", 0, (0, 0, 0), fixture),))
                for part, machine in zip(chance.choice(((left, right), (left, right), (right, left))), (near, far))]
        if not all(is_job(job) for job in jobs):
            return None
        told = [program_for(job) for job in jobs]
        if any(word != "made" for word, _ in told):
            return None
        job = changed(jobs[0], 1, less(stock, union_of([left, right])))
        pair = [[block for block in program if block[0] != "setup"] for _, program in told]
        return job, far, self.with_meetings(chance, pair)

    def with_meetings(self, chance, pair):
        """The programs with meetings somewhere, and a block of them changed now and then."""
        for number in range(1, 1 + chance.choice((0, 0, 0, 1, 2))):
            for blocks in pair:
                least = max([place for place, block in enumerate(blocks) if block[0] == "meet"], default=-1) + 1
                blocks.insert(chance.randint(least, len(blocks)), ("meet", number))
        for _ in range(chance.choice((0, 0, 1, 2))):
            blocks = chance.choice(pair)
            if blocks:
                place = chance.randrange(len(blocks))
                block = blocks[place]
                if len(block) == 3:
                    blocks[place] = chance.choice(((*block[:2], block[2] + chance.choice((-1, 1, 2))), ("cut", *block[1:]), ("rapid", *block[1:])))
                elif block[0] == "tool":
                    blocks.insert(place + chance.randint(0, 1), ("tool", chance.choice(("mill", "wide"))))
        return tuple(tuple(blocks) for blocks in pair)

    def test_drawn_pairs(self):
        chance, good, whys, states = random.Random(1), 0, {}, 0
        while good < 60 or sum(whys.values()) < 200:
            case = self.drawn_case(chance)
            if case is None:
                continue
            job, machine, pair = case
            self.assertIs(are_programs(pair), True)
            told, wanted = judge_two(job, machine, 0, pair), own_judge_two(job, machine, 0, pair)
            if wanted[0] == "good":
                good += 1
                self.assertEqual(told, ("good", solid_of(wanted[1])))
                if sum(len(blocks) for blocks in pair) < 24:
                    ends, many = all_ends(job, machine, 0, pair)
                    self.assertEqual(ends, {("done", frozenset(wanted[1]))}, (job, machine, pair))
                    states += many
            else:
                whys[wanted[2]] = whys.get(wanted[2], 0) + 1
                self.assertEqual((told[:2], told[2] == "heads"), (wanted[:2], wanted[2] == "heads"), (job, machine, pair))
            for _ in range(4):
                turns = [chance.randrange(2) for _ in range(chance.randint(0, 60))]
                run, stock = run_two(job, machine, 0, pair, turns)
                own, rest = own_run_two(job, machine, 0, pair, turns)
                self.assertEqual((run[:2], stock), (own, solid_of(rest)), (job, machine, pair, turns))
                if wanted[0] == "good":
                    self.assertEqual(run, ("done",))
            self.assertTrue(is_home_free(job, machine, 0))
        self.assertGreaterEqual(len(whys), 6, whys)
        self.assertGreater(whys["heads"], 20)
        self.assertGreater(states, 5000)

    def test_drawn_pairs_made_to_meet(self):
        chance, found = random.Random(2), []
        while len(found) < 120:
            case = self.drawn_case(chance)
            if case is None:
                continue
            job, machine, pair = case
            first, second = [tuple([block for block in blocks if block[0] != "meet"]) for blocks in pair]
            told, later = with_meets(job, machine, 0, (first, second)), ((*first, MEET), (MEET, *second))
            if own_judge_two(job, machine, 0, (first, second))[0] == "good":
                self.assertEqual(told, (first, second))
                found.append(0)
            elif own_judge_two(job, machine, 0, later)[0] == "good":
                self.assertEqual(told, later)
                self.assertEqual(run_two(job, machine, 0, told, [1, 0] * 20)[0], ("done",))
                found.append(1)
            else:
                self.assertIsNone(told)
                found.append(None)
        self.assertGreater(min(found.count(k) for k in (0, 1, None)), 5)


class Meets(unittest.TestCase):
    def test_with_meets(self):
        self.assertEqual(with_meets(TWO, FAR_SIDE, 0, (DO_LEFT, DO_RIGHT)), (DO_LEFT, DO_RIGHT))
        later = (*DO_RIGHT, *DO_LEFT_FAR[1:])
        early = (("tool", "mill"), ("rapid", 0, 2), ("rapid", 0, 0))
        self.assertEqual(with_meets(changed(TWO, 2, 9), FAR_SIDE, 0, (DO_LEFT, ())), (DO_LEFT, ()))
        # The second one, over the place of the first one: later, as the first one is at home then.
        over = (("tool", "mill"), ("rapid", 0, 1), ("rapid", 0, 7), *DO_RIGHT[2:])
        self.assertEqual(with_meets(TWO, FAR_SIDE, 0, (DO_LEFT, over)), ((*DO_LEFT, MEET), (MEET, *over)))
        self.assertIsNone(with_meets(TWO, FAR_SIDE, 0, (DO_LEFT, ())))
        self.assertIsNone(with_meets(TWO, FAR_SIDE, 0, (DO_LEFT[1:], DO_RIGHT)))
        self.assertEqual(with_meets(TWO, FAR_SIDE, 0, (early, later)), ((*early, MEET), (MEET, *later)))
        # At home it stands in the way for ever.
        home = (*DO_RIGHT[:1], ("rapid", 0, 0), ("rapid", 0, 8), *DO_RIGHT[1:])
        self.assertIsNone(with_meets(TWO, FAR_SIDE, 0, (DO_LEFT, home)))

    def test_the_document_s_pair(self):
        self.assertEqual(with_meets(JOB, OTHER, 0, (ALONE, FAR)), (ALONE, FAR))
        self.assertIsNone(with_meets(JOB, OTHER, 0, (FAR, FAR)))
        self.assertEqual((MACHINE[2], STOCK), (JOB[3][2], JOB[0]))


if __name__ == "__main__":
    unittest.main()
