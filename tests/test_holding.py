"""Promise 39: holding."""

import itertools
import random
import unittest

from cubes import cubes_of, flooded, plus, random_solid, solid_of
from shopwhole.holding import are_fewest, fewest_clamps, free_steps, is_held
from shopwhole.solids import box, less, pieces, union

SIDES = ((0, -1), (0, 1), (1, -1), (1, 1), (2, -1), (2, 1))
BAR = box((0, 0, 0), (5, 2, 2))
WALLS = tuple([(name, wall) for name, wall in (
    ("west", box((-1, 0, 0), (0, 1, 1))), ("east", box((5, 1, 1), (6, 2, 2))), ("south", box((0, -1, 0), (1, 0, 1))),
    ("north", box((4, 2, 1), (5, 3, 2))), ("floor", box((0, 0, -1), (1, 1, 0))), ("roof", box((2, 1, 2), (3, 2, 3))))])
NAMES = ("west", "east", "south", "north", "floor", "roof")


def stepped(cubes, side):
    return {plus(cube, tuple(side[1] if k == side[0] else 0 for k in range(3))) for cube in cubes}


def own_pieces(cubes):
    """The parts that hang together, in the order of their solids."""
    out = []
    while cubes:
        part = set(flooded(cubes, min(cubes)))
        out.append(part)
        cubes = cubes - part
    return sorted(out, key=solid_of)


def own_free(cubes, stuff):
    return [(number, side) for number, part in enumerate(own_pieces(cubes)) for side in SIDES
            if not stepped(part, side) & stuff]


def own_fewest(cubes, clamps):
    for many in range(len(clamps) + 1):
        for lot in itertools.combinations(clamps, many):
            if not own_free(cubes, set().union(*[cubes_of(stuff) for _, stuff in lot])):
                return tuple([name for name, _ in lot])
    return None


def random_clamps(chance, solid):
    clamps = []
    for name in "abcdefgh"[:chance.randint(0, 8)]:
        stuff = less(random_solid(chance, -1, 5, 3)[0], solid) if chance.random() < 0.9 else ()
        if chance.random() < 0.2:
            stuff = less(box((-1, -1, -1), (6, 6, 6)), solid)
        clamps.append((name, stuff))
    return tuple(clamps)


class Steps(unittest.TestCase):
    def test_against_unit_cubes(self):
        chance = random.Random(1)
        for _ in range(120):
            solid, cubes = random_solid(chance, 0, 4, 7)
            stuff = less(random_solid(chance, -1, 5, 6)[0], solid)
            self.assertEqual(free_steps(solid, stuff), own_free(cubes, cubes_of(stuff)))

    def test_beside_nothing(self):
        self.assertEqual(free_steps(BAR, ()), [(0, side) for side in SIDES])
        self.assertEqual(free_steps((), ()), [])
        self.assertEqual(free_steps((), BAR), [])

    def test_parts_that_do_not_hang_together(self):
        two = union(BAR, box((5, 2, 0), (7, 4, 2)))
        self.assertEqual(len(pieces(two)), 2)
        # Neither is in the other's way: other parts count for nothing.
        self.assertEqual(free_steps(two, ()), [(number, side) for number in (0, 1) for side in SIDES])
        numbers = {part: number for number, part in enumerate(pieces(two))}
        wall = box((7, 0, 0), (8, 5, 5))
        self.assertEqual([step for step in [(number, side) for number in (0, 1) for side in SIDES]
                          if step not in free_steps(two, wall)], [(numbers[box((5, 2, 0), (7, 4, 2))], (0, 1))])

    def test_by_one_alone(self):
        self.assertIn((0, (0, 1)), free_steps(BAR, box((6, 0, 0), (7, 2, 2))))
        self.assertNotIn((0, (0, 1)), free_steps(BAR, box((5, 0, 0), (6, 2, 2))))
        self.assertIn((0, (0, 1)), free_steps(BAR, box((5, 2, 0), (6, 3, 2))))


class Held(unittest.TestCase):
    def test_walls(self):
        self.assertIs(is_held(BAR, WALLS, NAMES), True)
        for name in NAMES:
            self.assertIs(is_held(BAR, WALLS, tuple([other for other in NAMES if other != name])), False)
        self.assertIs(is_held(BAR, WALLS, ()), False)
        self.assertIs(is_held((), WALLS, ()), True)
        self.assertIs(is_held((), (), ()), True)

    def test_clamps_that_are_nothing(self):
        clamps = (*WALLS, ("none", ()))
        self.assertIs(is_held(BAR, clamps, ("none",)), False)
        self.assertIs(is_held(BAR, clamps, (*NAMES, "none")), True)
        self.assertEqual(fewest_clamps(BAR, clamps)[0], NAMES)

    def test_a_part_that_is_held_beside_one_that_is_not(self):
        two = union(BAR, box((9, 9, 9), (10, 10, 10)))
        self.assertIs(is_held(two, WALLS, NAMES), False)
        self.assertIsNone(fewest_clamps(two, WALLS))
        shell = less(box((8, 8, 8), (11, 11, 11)), box((9, 9, 9), (10, 10, 10)))
        self.assertIs(is_held(two, (*WALLS, ("shell", shell)), (*NAMES, "shell")), True)


class Fewest(unittest.TestCase):
    def assert_fewest(self, solid, clamps):
        told = fewest_clamps(solid, clamps)
        self.assertEqual(fewest_clamps(solid, clamps), told)
        wanted = own_fewest(cubes_of(solid), clamps)
        if wanted is None:
            self.assertIsNone(told)
            return None
        names, papers = told
        self.assertEqual(names, wanted)
        self.assertIsInstance(papers, tuple)
        lots = itertools.combinations([name for name, _ in clamps], len(names) - 1) if names else []
        self.assertEqual([paper[0] for paper in papers], list(lots))
        for lot, number, side in papers:
            stuff = set().union(*[cubes_of(stuff) for name, stuff in clamps if name in lot])
            self.assertIn((number, side), own_free(cubes_of(solid), stuff))
        self.assertIs(are_fewest(solid, clamps, names, papers), True)
        return names

    def test_drawn_clamps(self):
        chance = random.Random(2)
        sizes = []
        for _ in range(60):
            solid = random_solid(chance, 0, 4, 5)[0]
            names = self.assert_fewest(solid, random_clamps(chance, solid))
            sizes.append(-1 if names is None else len(names))
        for size in (-1, 0, 1, 2):
            self.assertGreater(sizes.count(size), 2, sizes)

    def test_walls(self):
        self.assertEqual(self.assert_fewest(BAR, WALLS), NAMES)
        self.assertEqual(len(fewest_clamps(BAR, WALLS)[1]), 6)
        pairs = (("we", union(WALLS[0][1], WALLS[1][1])), *WALLS, ("sn", union(WALLS[2][1], WALLS[3][1])))
        self.assertEqual(self.assert_fewest(BAR, pairs), ("we", "floor", "roof", "sn"))
        self.assertEqual(len(fewest_clamps(BAR, pairs)[1]), 56)
        self.assertIsNone(fewest_clamps(BAR, WALLS[:5]))
        self.assertIsNone(fewest_clamps(BAR, ()))

    def test_none_fewer(self):
        self.assertEqual(fewest_clamps((), WALLS), ((), ()))
        self.assertEqual(fewest_clamps((), ()), ((), ()))
        self.assertIs(are_fewest((), WALLS, (), ()), True)
        self.assertIs(are_fewest((), WALLS, ("west",), (((), 0, (0, 1)),)), False)

    def test_one(self):
        shell = ("shell", less(box((-1, -1, -1), (6, 3, 3)), BAR))
        names, papers = fewest_clamps(BAR, (*WALLS[:2], shell, ("again", shell[1])))
        self.assertEqual((names, len(papers), papers[0][0]), (("shell",), 1, ()))
        self.assertIn((papers[0][1], papers[0][2]), free_steps(BAR, ()))
        # More names than there are clamps, for which there are no lots of one fewer.
        for names in (("shell", "hat", "cap"), ("shell", "shell", "shell"), ("shell", "shell"), ("shell", "hat")):
            self.assertIs(are_fewest(BAR, (shell,), names, ()), False)
            self.assertIs(are_fewest(BAR, (shell,), names, ((("shell",), 0, (0, 1)),)), False)


class Papers(unittest.TestCase):
    def setUp(self):
        self.clamps = (*WALLS, ("we", union(WALLS[0][1], WALLS[1][1])))
        self.names, self.papers = fewest_clamps(BAR, self.clamps)
        self.assertEqual(self.names, ("south", "north", "floor", "roof", "we"))

    def assert_not_taken(self, names, papers):
        self.assertIs(are_fewest(BAR, self.clamps, names, papers), False, (names, papers))

    def test_names(self):
        self.assertIs(are_fewest(BAR, self.clamps, self.names, self.papers), True)
        self.assertIs(are_fewest(BAR, self.clamps, self.names[::-1], self.papers), True)
        for names in ((), self.names[:4], (*self.names[:4], "west"), (*self.names, "west"), (*self.names[:4], "roof"),
                      list(self.names), (*self.names[:4], "hat"), (*self.names, "we"), None, 5, "we", (*self.names, None),
                      (*self.names[:4], ["we"]), NAMES):
            self.assert_not_taken(names, self.papers)

    def test_more_than_the_fewest(self):
        lots = itertools.combinations([name for name, _ in self.clamps], 5)
        papers = tuple([(lot, 0, SIDES[0]) for lot in lots])
        self.assert_not_taken((*self.names, "west"), papers)
        self.assert_not_taken(NAMES, papers)

    def test_any_free_step_is_taken(self):
        walls = tuple([(name, wall) for name, wall in WALLS])
        names, papers = fewest_clamps(BAR, walls)
        shell = (("shell", less(box((-1, -1, -1), (6, 3, 3)), BAR)),)
        for side in SIDES:
            self.assertIs(are_fewest(BAR, shell, ("shell",), (((), 0, side),)), True)
            self.assertIs(are_fewest(BAR, shell, ("shell",), (((), 1, side),)), False)
        self.assertIs(are_fewest(BAR, walls, names, papers), True)

    def test_changed_papers(self):
        papers = self.papers
        for other in ((), papers[:-1], papers[1:], papers[::-1], (*papers, papers[0]), list(papers), None, 5, "papers",
                      (papers[1], papers[0], *papers[2:]), (None,) * len(papers), ((),) * len(papers)):
            self.assert_not_taken(self.names, other)
        for place, (lot, number, side) in enumerate(papers):
            stuff = ()
            for name, solid in self.clamps:
                stuff = union(stuff, solid) if name in lot else stuff
            free = free_steps(BAR, stuff)
            for paper in [(lot, number), [lot, number, side], (lot, number, side, 1), (lot[::-1], number, side),
                          (list(lot), number, side), (lot[1:], number, side), (lot, -1, side), (lot, 1, side),
                          (lot, False, side), (lot, None, side), (lot, number, list(side)), (lot, number, None),
                          (lot, number, (3, 1)), (lot, number, (0, 0)), (lot, str(number), side), None, (), "abc",
                          *[(lot, 0, other) for other in SIDES if (0, other) not in free]]:
                self.assert_not_taken(self.names, (*papers[:place], paper, *papers[place + 1:]))
        # (0, 1) and (False, True) are alike for Python, but no integers.
        one = (("shell", less(box((-1, -1, -1), (6, 3, 3)), BAR)),)
        self.assertIs(are_fewest(BAR, one, ("shell",), (((), 0, (0, 1)),)), True)
        self.assertIs(are_fewest(BAR, one, ("shell",), (((), 0, (False, True)),)), False)


if __name__ == "__main__":
    unittest.main()
