"""Promise 14: inspection."""

import random
import unittest

from cubes import cubes_of, plus, random_point, random_solid, solid_of
from shopwhole.inspection import (
    excess, faces_made, faces_of, lacking, probe, slice_text, taken_by, taker_of,
)
from shopwhole.solids import box, is_within, less, spread, union

SIDES = [(axis, way) for axis in range(3) for way in (-1, 1)]
BAR = box((0, 0, 0), (5, 2, 2))
NOTCHED = less(BAR, box((2, 0, 1), (3, 2, 2)))


def step_to(side):
    return tuple(side[1] if axis == side[0] else 0 for axis in range(3))


def random_stocks(chance):
    stock, _ = random_solid(chance, 0, 6, 6)
    stocks = [stock]
    for _ in range(chance.randint(0, 4)):
        stocks.append(less(stocks[-1], random_solid(chance, 0, 6, 2)[0]))
    return stocks


class Taken(unittest.TestCase):
    def test_against_own_counts(self):
        chance = random.Random(1)
        for _ in range(60):
            stocks = random_stocks(chance)
            cubes = [cubes_of(stock) for stock in stocks]
            wanted = [one - other for one, other in zip(cubes, cubes[1:])]
            self.assertEqual(taken_by(stocks), tuple(solid_of(part) for part in wanted))
            self.assertEqual(taken_by(tuple(stocks)), taken_by(stocks))
            for _ in range(20):
                point = random_point(chance, 0, 6)
                takers = [number for number, part in enumerate(wanted) if point in part]
                self.assertEqual(taker_of(stocks, point), takers[0] if takers else None)

    def test_none(self):
        self.assertEqual((taken_by([BAR]), taken_by(()), taken_by([(), ()])), ((), (), ((),)))
        self.assertIsNone(taker_of([BAR], (0, 0, 0)))
        self.assertIsNone(taker_of([BAR, BAR], (9, 9, 9)))
        self.assertEqual(taker_of([BAR, BAR, ()], (4, 1, 1)), 1)


class Faces(unittest.TestCase):
    def test_against_own_counts(self):
        chance = random.Random(2)
        for _ in range(60):
            (solid, cubes), (taken, gone) = random_solid(chance), random_solid(chance)
            taken, gone = less(taken, solid), gone - cubes
            for side in SIDES:
                step = step_to(side)
                bare = {cube for cube in cubes if plus(cube, step) not in cubes}
                self.assertEqual(faces_of(solid, side), solid_of(bare))
                made = {cube for cube in bare if plus(cube, step) in gone}
                self.assertEqual(faces_made(solid, taken, side), solid_of(made))

    def test_nothing(self):
        for side in SIDES:
            self.assertEqual((faces_of((), side), faces_made((), BAR, side), faces_made(BAR, (), side)), ((), (), ()))


class Slices(unittest.TestCase):
    def test_drawings(self):
        self.assertEqual(slice_text(NOTCHED, 1), "#.#")
        self.assertEqual(slice_text(NOTCHED, 0), "#")
        self.assertEqual((slice_text(NOTCHED, 2), slice_text(NOTCHED, -1), slice_text((), 0)), ("", "", ""))
        solid = union(union(box((0, 0, 0), (9, 2, 1)), box((0, 5, 0), (1, 7, 1))), box((4, 5, 0), (5, 6, 1)))
        self.assertEqual(slice_text(solid, 0), "#...\n#.#.\n....\n####")

    def test_against_own_counts(self):
        chance = random.Random(3)
        for _ in range(60):
            solid, cubes = random_solid(chance)
            for height in range(-3, 6):
                flat = {cube[:2] for cube in cubes if cube[2] == height}
                text = slice_text(solid, height)
                if not flat:
                    self.assertEqual(text, "")
                    continue
                # The rows of the form change where a row of squares is not that below it.
                rows = {y: sorted(x for x, other in flat if other == y) for y in range(-4, 8)}
                ys = [y for y in range(-3, 8) if rows[y] != rows[y - 1]]
                xs = sorted({x for x, y in flat if (x - 1, y) not in flat} | {x + 1 for x, y in flat
                                                                             if (x + 1, y) not in flat})
                wanted = ["".join("#" if (x, y) in flat else "." for x in xs[:-1]) for y in ys[:-1]]
                self.assertEqual(text, "\n".join(wanted[::-1]))


class Probes(unittest.TestCase):
    def test_against_own_counts(self):
        chance = random.Random(4)
        for _ in range(100):
            solid, cubes = random_solid(chance)
            for side in SIDES:
                point = random_point(chance, -5, 7)
                wanted, at = None, point
                for steps in range(20):
                    if at in cubes:
                        wanted = steps
                        break
                    at = plus(at, step_to(side))
                self.assertEqual(probe(solid, point, side), wanted)

    def test_far_off(self):
        self.assertEqual(probe(NOTCHED, (2, 1, 10 ** 9), (2, -1)), 10 ** 9)
        self.assertEqual(probe(NOTCHED, (-10 ** 9, 1, 1), (0, 1)), 10 ** 9)
        self.assertIsNone(probe(NOTCHED, (2, 1, 10 ** 9), (2, 1)))
        for side in SIDES:
            self.assertIsNone(probe((), (0, 0, 0), side))
            self.assertEqual(probe(BAR, (1, 1, 1), side), 0)


class Measures(unittest.TestCase):
    def test_excess_against_own_counts(self):
        chance = random.Random(5)
        for _ in range(80):
            (solid, cubes), (wished, others) = random_solid(chance, -4, 6, 3), random_solid(chance)
            if not cubes:
                wanted = 0
            elif not others:
                wanted = None
            else:
                wanted = max(min(max(abs(one[k] - other[k]) for k in range(3)) for other in others) for one in cubes)
            self.assertEqual(excess(solid, wished), wanted)

    def test_excess(self):
        self.assertEqual((excess((), ()), excess((), BAR), excess(BAR, ()), excess(BAR, BAR)), (0, 0, None, 0))
        far = box((10 ** 8, 0, 0), (10 ** 8 + 1, 1, 1))
        self.assertEqual(excess(far, BAR), 10 ** 8 + 1 - 5)
        self.assertTrue(is_within(far, spread(BAR, excess(far, BAR))))

    def test_lacking(self):
        chance = random.Random(6)
        for _ in range(60):
            (solid, cubes), (wished, others) = random_solid(chance), random_solid(chance)
            self.assertEqual(lacking(solid, wished), solid_of(others - cubes))
        self.assertEqual((lacking((), BAR), lacking(BAR, ())), (BAR, ()))


if __name__ == "__main__":
    unittest.main()
