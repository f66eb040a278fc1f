"""Promise 38: views."""

import itertools
import random
import unittest

from cubes import cubes_of, random_solid, solid_of
from shopwhole.solids import box, is_solid, is_within, less, mirrored, moved, spread, union
from shopwhole.views import are_views, fits_views, greatest_with, view, views

BAR, NOTCH = box((0, 0, 0), (5, 2, 2)), box((2, 0, 1), (3, 2, 2))


def flat(cube, axis):
    return tuple(0 if k == axis else cube[k] for k in range(3))


def own_views(cubes):
    return tuple(frozenset(flat(cube, axis) for cube in cubes) for axis in range(3))


def own_greatest(shadows):
    """All unit cubes whose three shadows are there."""
    numbers = sorted({number for shadow in shadows for cube in shadow for number in cube} | {0})
    room = itertools.product(range(numbers[0], numbers[-1] + 1), repeat=3)
    return {cube for cube in room if all(flat(cube, axis) in shadows[axis] for axis in range(3))}


def told_of(shadows):
    return tuple(solid_of(shadow) for shadow in shadows)


class Shadows(unittest.TestCase):
    def test_against_unit_cubes(self):
        chance = random.Random(1)
        for _ in range(150):
            solid, cubes = random_solid(chance, -3, 4, 8)
            wanted = own_views(cubes)
            self.assertEqual(views(solid), told_of(wanted))
            for axis in range(3):
                self.assertEqual(view(solid, axis), solid_of(wanted[axis]))
                self.assertTrue(is_solid(view(solid, axis)))

    def test_views(self):
        self.assertEqual(view(BAR, 0), box((0, 0, 0), (1, 2, 2)))
        self.assertEqual(view(moved(BAR, (-9, 5, 7)), 1), box((-9, 0, 7), (-4, 1, 9)))
        self.assertEqual(view(less(BAR, NOTCH), 1), ((0, 1, ((0, 1, ((0, 5),)),)), (1, 2, ((0, 1, ((0, 2), (3, 5))),))))
        self.assertEqual(view(less(BAR, NOTCH), 2), box((0, 0, 0), (5, 2, 1)))
        self.assertEqual([view((), axis) for axis in range(3)], [(), (), ()])
        self.assertEqual(views(()), ((), (), ()))
        self.assertIsInstance(views(BAR), tuple)

    def test_parts_over_one_another_fall_together(self):
        steps = union(box((0, 0, 0), (2, 1, 1)), box((1, 0, 9), (4, 1, 10)))
        self.assertEqual(view(steps, 2), box((0, 0, 0), (4, 1, 1)))
        self.assertEqual(view(mirrored(steps, 2), 2), view(steps, 2))


class Greatest(unittest.TestCase):
    def test_against_unit_cubes(self):
        chance = random.Random(2)
        shown = 0
        for _ in range(80):
            # Views of one solid, or put together from unlike solids.
            shadows = own_views(random_solid(chance, -2, 3, 6)[1])
            if chance.random() < 0.6:
                others = [own_views(random_solid(chance, -2, 3, 6)[1]) for _ in range(3)]
                shadows = tuple(chance.choice((shadows, others[axis]))[axis] for axis in range(3))
            told, wanted = told_of(shadows), own_greatest(shadows)
            self.assertEqual(cubes_of(greatest_with(told)), wanted)
            can = own_views(wanted) == shadows
            shown += can
            self.assertIs(are_views(told), can)
            self.assertIs(fits_views(greatest_with(told), told), can)
        self.assertGreater(shown, 20)
        self.assertLess(shown, 70)

    def test_a_solid_is_within_the_greatest_with_its_views(self):
        chance = random.Random(3)
        for _ in range(60):
            solid = random_solid(chance, -3, 5, 8)[0]
            told = views(solid)
            self.assertIs(is_within(solid, greatest_with(told)), True)
            self.assertIs(are_views(told), True)
            self.assertIs(fits_views(solid, told), True)
            self.assertEqual(views(greatest_with(told)), told)

    def test_views_that_no_solid_has(self):
        for told in ((view(BAR, 0), view(BAR, 1), view(NOTCH, 2)),
                     (view(moved(BAR, (0, 0, 1)), 0), view(BAR, 1), view(BAR, 2)),
                     (view(BAR, 0), view(less(BAR, box((0, 0, 0), (1, 2, 2))), 1), view(BAR, 2))):
            self.assertIs(are_views(told), False)
            for axis in range(3):
                self.assertIs(is_within(view(greatest_with(told), axis), told[axis]), True)
        far = moved(BAR, (0, 0, 50))
        told = (view(BAR, 0), view(far, 1), view(BAR, 2))
        self.assertEqual((greatest_with(told), are_views(told)), ((), False))

    def test_solids_that_are_no_shadows(self):
        """No solid has a view that isn't from 0 to 1 along its axis."""
        for axis in range(3):
            told = list(views(BAR))
            for other in (spread(told[axis], 1), moved(told[axis], tuple(int(k == axis) for k in range(3)))):
                told[axis] = other
                self.assertIs(are_views(tuple(told)), False)
                self.assertIs(fits_views(BAR, tuple(told)), False)
                for k in range(3):
                    self.assertIs(is_within(view(greatest_with(tuple(told)), k), told[k]), True)

    def test_nothing(self):
        self.assertEqual(greatest_with(((), (), ())), ())
        self.assertIs(are_views(((), (), ())), True)
        self.assertIs(fits_views((), ((), (), ())), True)
        self.assertIs(fits_views(BAR, ((), (), ())), False)
        self.assertIs(fits_views((), views(BAR)), False)
        for axis in range(3):
            told = tuple([() if k == axis else view(BAR, k) for k in range(3)])
            self.assertEqual((greatest_with(told), are_views(told)), ((), False))
            told = tuple([view(BAR, k) if k == axis else () for k in range(3)])
            self.assertEqual((greatest_with(told), are_views(told)), ((), False))

    def test_unlike_solids_with_the_same_views(self):
        # A cube of eight, and four cubes at corners of it that lie over edges: the same shadows.
        four = solid_of({(0, 0, 0), (0, 1, 1), (1, 0, 1), (1, 1, 0)})
        whole = box((0, 0, 0), (2, 2, 2))
        self.assertEqual(views(four), views(whole))
        self.assertEqual(greatest_with(views(four)), whole)
        self.assertIs(fits_views(four, views(whole)), True)
        self.assertIs(fits_views(less(four, box((0, 0, 0), (1, 1, 1))), views(whole)), False)

    def test_thousandths(self):
        solid = union(box((0, 0, 0), (120000, 80000, 1)), box((-5000, 3, 10 ** 8), (0, 4, 999999999)))
        self.assertEqual(view(solid, 2), union(box((0, 0, 0), (120000, 80000, 1)), box((-5000, 3, 0), (0, 4, 1))))
        self.assertIs(are_views(views(solid)), True)


if __name__ == "__main__":
    unittest.main()
