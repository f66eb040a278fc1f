"""Promise 4: solids moved, mirrored, spread and turned."""

import itertools
import random
import unittest

from cubes import cubes_of, plus, random_point, random_solid, solid_of
from shopwhole.solids import box, is_solid, mirrored, moved, spread
from shopwhole.turns import after, back, turned, turned_point

AXES = ((0, 1, 2), (0, 2, 1), (1, 0, 2), (1, 2, 0), (2, 0, 1), (2, 1, 0))


def determinant(axes, signs):
    rows = [[signs[k] if axes[k] == column else 0 for column in range(3)] for k in range(3)]
    (a, b, c), (d, e, f), (g, h, i) = rows
    return a * (e * i - f * h) - b * (d * i - f * g) + c * (d * h - e * g)


# The turnings as the document tells them: all axes, all signs, those that mirror left out.
TURNINGS = [(axes, signs) for axes in AXES for signs in itertools.product((1, -1), repeat=3)
            if determinant(axes, signs) == 1]


def led(point, turn):
    axes, signs = TURNINGS[turn]
    return tuple(signs[k] * point[axes[k]] for k in range(3))


def cube_led(cube, turn):
    one, other = led(cube, turn), led(plus(cube, (1, 1, 1)), turn)
    return tuple(min(pair) for pair in zip(one, other))


class Moved(unittest.TestCase):
    def test_moved(self):
        chance = random.Random(1)
        for _ in range(100):
            (solid, cubes), by = random_solid(chance), random_point(chance)
            self.assertEqual(moved(solid, by), solid_of({plus(cube, by) for cube in cubes}))
        self.assertEqual(moved((), (1, 2, 3)), ())

    def test_mirrored(self):
        chance = random.Random(2)
        for _ in range(100):
            solid, cubes = random_solid(chance)
            for axis in range(3):
                wanted = {tuple(-number - 1 if k == axis else number for k, number in enumerate(cube))
                          for cube in cubes}
                made = mirrored(solid, axis)
                self.assertTrue(is_solid(made))
                self.assertEqual(made, solid_of(wanted))
                self.assertEqual(mirrored(made, axis), solid)
        self.assertEqual(mirrored(box((1, 2, 3), (4, 6, 8)), 1), box((1, -6, 3), (4, -2, 8)))

    def test_spread(self):
        chance = random.Random(3)
        for _ in range(60):
            solid, cubes = random_solid(chance)
            self.assertEqual(spread(solid, 0), solid)
            for by in (1, 2):
                sides = range(-by, by + 1)
                wanted = {plus(cube, step) for cube in cubes for step in itertools.product(sides, sides, sides)}
                made = spread(solid, by)
                self.assertTrue(is_solid(made))
                self.assertEqual(cubes_of(made), wanted)
                self.assertEqual(made, solid_of(wanted))
        self.assertEqual(spread((), 3), ())
        self.assertEqual(spread(box((0, 0, 0), (1, 1, 1)), 1000), box((-1000,) * 3, (1001,) * 3))


class Turned(unittest.TestCase):
    def test_all_turnings_on_points(self):
        self.assertEqual(len(TURNINGS), 24)
        for turn in range(24):
            for point in ((1, 2, 3), (0, 0, 0), (-5, 7, 2)):
                self.assertEqual(turned_point(point, turn), led(point, turn), turn)

    def test_all_turnings_on_solids(self):
        chance = random.Random(4)
        for _ in range(15):
            solid, cubes = random_solid(chance, -2, 5, 7)
            for turn in range(24):
                made = turned(solid, turn)
                self.assertTrue(is_solid(made))
                self.assertEqual(made, solid_of({cube_led(cube, turn) for cube in cubes}))
                self.assertEqual(turned(made, back(turn)), solid)
        self.assertEqual([turned((), turn) for turn in range(24)], [()] * 24)

    def test_one_behind_another(self):
        chance = random.Random(5)
        solid, _ = random_solid(chance, 0, 6, 6)
        for one in range(24):
            for other in range(24):
                number = after(one, other)
                self.assertIn(number, range(24))
                self.assertEqual(turned_point((1, 2, 3), number), led(led((1, 2, 3), one), other))
            other = chance.randrange(24)
            self.assertEqual(turned(solid, after(one, other)), turned(turned(solid, one), other))

    def test_undone(self):
        for turn in range(24):
            self.assertEqual(after(turn, back(turn)), 0)
            self.assertEqual(after(back(turn), turn), 0)
            self.assertEqual(turned_point(turned_point((1, 2, 3), turn), back(turn)), (1, 2, 3))


if __name__ == "__main__":
    unittest.main()
