"""Promises 3, 5 and 6: solids, parts that hang together, standings."""

import random
import unittest

from cubes import (
    STEPS, beside, cubes_of, flooded, minus, plus, random_corners, random_point, random_solid, solid_of,
)
from shopwhole.solids import (
    area, barred, bounds, box, boxes_of, do_meet, has, is_solid, is_within, less, meet, neighbours, piece_with,
    pieces, swept, union, union_of, volume,
)

ROW = ((0, 1), (2, 4))
LAYER = ((0, 1, ROW), (1, 2, ((0, 4),)))


class Form(unittest.TestCase):
    def test_things_in_the_form(self):
        for thing in ((), ((0, 1, LAYER),), ((-3, 1, LAYER), (1, 2, ((0, 1, ROW),))),
                      ((0, 1, LAYER), (2, 3, LAYER)), ((0, 1, ((0, 1, ROW), (2, 3, ROW))),)):
            self.assertIs(is_solid(thing), True, thing)

    def test_things_nearly_in_the_form(self):
        wrong_rows = ((), ((0, 1), (1, 2)), ((0, 2), (1, 3)), ((2, 3), (0, 1)), ((0, 0),), ((1, 0),), ((0, 1, 2),),
                      ((0,),), [(0, 1)], ([0, 1],), ((False, True),), ((0, True),), (("0", "1"),), ((0.0, 1.0),),
                      ((None, 1),), 5, "ab", (5,), None)
        for row in wrong_rows:
            self.assertIs(is_solid(((0, 1, ((0, 1, row),)),)), False, row)
        wrong_layers = ((), ((0, 1, ROW), (1, 2, ROW)), ((0, 2, ROW), (1, 3, ((0, 1),))), ((1, 1, ROW),),
                        ((2, 1, ROW),), ((2, 3, ROW), (0, 1, ROW)), ((0, 1),), ((0, 1, ROW, ROW),), [(0, 1, ROW)],
                        ([0, 1, ROW],), ((False, 1, ROW),), ((0, 1, list(ROW)),), 7, None, "layer")
        for layer in wrong_layers:
            self.assertIs(is_solid(((0, 1, layer),)), False, layer)
        wrong = (((0, 1, LAYER), (1, 2, LAYER)), ((0, 2, LAYER), (1, 3, LAYER)), ((1, 2, LAYER), (0, 1, LAYER)),
                 ((0, 0, LAYER),), ((0, 1),), ((0, 1, LAYER, 1),), [(0, 1, LAYER)], ([0, 1, LAYER],),
                 ((0, True, LAYER),), None, 0, "", [], {}, True, object(), b"", (None,), ((),))
        for thing in wrong:
            self.assertIs(is_solid(thing), False, thing)

    def test_same_points_same_form(self):
        chance = random.Random(1)
        for _ in range(300):
            solid, cubes = random_solid(chance)
            self.assertIs(is_solid(solid), True)
            self.assertEqual(cubes_of(solid), cubes)
            shuffled = sorted(cubes)
            chance.shuffle(shuffled)
            self.assertEqual(union_of([box(cube, plus(cube, (1, 1, 1))) for cube in shuffled]), solid)
            one_by_one = ()
            for cube in shuffled:
                one_by_one = union(box(cube, plus(cube, (1, 1, 1))), one_by_one)
            self.assertEqual(one_by_one, solid)
            self.assertEqual(union_of(tuple([box(*corners) for corners in boxes_of(solid)])), solid)

    def test_nothing(self):
        self.assertEqual((less(box((0, 0, 0), (1, 1, 1)), box((0, 0, 0), (1, 1, 1))), union((), ()), union_of([])),
                         ((), (), ()))
        self.assertEqual((volume(()), area(()), bounds(()), boxes_of(()), has((), (0, 0, 0))), (0, 0, None, [], False))
        self.assertTrue(is_within((), ()))
        self.assertFalse(do_meet((), box((0, 0, 0), (1, 1, 1))))

    def test_box(self):
        self.assertEqual(box((0, 1, 2), (3, 4, 5)), ((2, 5, ((1, 4, ((0, 3),)),)),))
        for corner in ((3, 0, 0), (0, 3, 0), (0, 0, 3), (4, 0, 0), (0, 9, 0), (0, 0, 5), (3, 3, 3)):
            self.assertEqual(box(corner, (3, 3, 3)), ())


class Counts(unittest.TestCase):
    def test_union_meet_less(self):
        chance = random.Random(2)
        for _ in range(400):
            (a, cubes), (b, others) = random_solid(chance), random_solid(chance)
            for made, wanted in ((union(a, b), cubes | others), (meet(a, b), cubes & others),
                                 (less(a, b), cubes - others)):
                self.assertTrue(is_solid(made))
                self.assertEqual(cubes_of(made), wanted)
                self.assertEqual(made, solid_of(wanted))
            self.assertIs(is_within(a, b), cubes <= others)
            self.assertIs(do_meet(a, b), bool(cubes & others))

    def test_solids_far_apart_and_one_in_the_gap_of_another(self):
        apart = union(box((0, 0, 0), (1, 1, 1)), box((0, 0, 10), (1, 1, 11)))
        for z in (-3, -1, 0, 1, 4, 9, 10, 11, 14):
            other = box((0, 0, z), (1, 1, z + 1))
            cubes = {(0, 0, 0), (0, 0, 10)}
            self.assertEqual(cubes_of(union(apart, other)), cubes | {(0, 0, z)})
            self.assertEqual(cubes_of(union(other, apart)), cubes | {(0, 0, z)})
            self.assertEqual(cubes_of(less(apart, other)), cubes - {(0, 0, z)})
            self.assertEqual(cubes_of(meet(apart, other)), cubes & {(0, 0, z)})

    def test_volume_area_bounds_has(self):
        chance = random.Random(3)
        for _ in range(300):
            solid, cubes = random_solid(chance)
            self.assertEqual(volume(solid), len(cubes))
            self.assertEqual(area(solid), sum(plus(cube, step) not in cubes for cube in cubes for step in STEPS))
            wanted = None
            if cubes:
                wanted = (tuple(min(cube[k] for cube in cubes) for k in range(3)),
                          tuple(max(cube[k] for cube in cubes) + 1 for k in range(3)))
            self.assertEqual(bounds(solid), wanted)
            for _ in range(20):
                point = random_point(chance)
                self.assertIs(has(solid, point), point in cubes)

    def test_boxes_are_in_the_order_of_the_form(self):
        solid = union(box((0, 0, 0), (5, 5, 1)), union(box((0, 0, 1), (1, 5, 2)), box((3, 2, 1), (4, 3, 2))))
        self.assertEqual(boxes_of(solid), [((0, 0, 0), (5, 5, 1)), ((0, 0, 1), (1, 2, 2)), ((0, 2, 1), (1, 3, 2)),
                                           ((3, 2, 1), (4, 3, 2)), ((0, 3, 1), (1, 5, 2))])

    def test_far_numbers(self):
        far = 999999999
        solid = less(box((-far, -far, -far), (far, far, far)), box((0, 0, 0), (1, 1, 1)))
        self.assertEqual(volume(solid), 8 * far ** 3 - 1)
        self.assertEqual(area(solid), 6 * 4 * far ** 2 + 6)


class Hanging(unittest.TestCase):
    def test_edges_and_corners_do_not_hold(self):
        cube = box((0, 0, 0), (1, 1, 1))
        for by in ((1, 1, 0), (1, 0, 1), (0, 1, 1), (1, 1, 1), (-1, 1, 0), (-1, -1, -1), (2, 0, 0)):
            other = box(by, plus(by, (1, 1, 1)))
            self.assertEqual(pieces(union(cube, other)), sorted([cube, other]))
            self.assertEqual(piece_with(union(cube, other), (0, 0, 0)), cube)
        for by in STEPS:
            both = union(cube, box(by, plus(by, (1, 1, 1))))
            self.assertEqual(pieces(both), [both])
            self.assertEqual(piece_with(both, by), both)

    def test_a_ring_round_a_core_is_another_part(self):
        ring, core = less(box((0, 0, 0), (5, 5, 5)), box((1, 1, 0), (4, 4, 5))), box((2, 2, 0), (3, 3, 5))
        self.assertEqual(pieces(union(ring, core)), sorted([ring, core]))
        self.assertEqual(piece_with(union(ring, core), (2, 2, 4)), core)
        self.assertEqual(piece_with(union(ring, core), (4, 4, 4)), ring)
        self.assertEqual(piece_with(union(ring, core), (1, 1, 1)), ())

    def test_nothing(self):
        self.assertEqual((pieces(()), piece_with((), (0, 0, 0))), ([], ()))

    def test_against_own_counts(self):
        chance = random.Random(4)
        for _ in range(200):
            solid, cubes = random_solid(chance, -2, 5, 9)
            left, parts = set(cubes), []
            while left:
                part = set(flooded(left, min(left)))
                parts.append(part)
                left -= part
            found = pieces(solid)
            self.assertEqual(found, sorted([solid_of(part) for part in parts]))
            self.assertTrue(all(is_solid(part) for part in found))
            point = random_point(chance)
            wanted = [part for part in parts if point in part]
            self.assertEqual(piece_with(solid, point), solid_of(wanted[0]) if wanted else ())


class Standings(unittest.TestCase):
    def test_against_own_counts(self):
        chance = random.Random(5)
        for _ in range(150):
            (lot, standings), (solid, cubes) = random_solid(chance, -2, 3), random_solid(chance, -1, 4)
            tool, of_tool = random_solid(chance, -1, 2, 3)
            made = swept(lot, tool)
            self.assertTrue(is_solid(made))
            self.assertEqual(made, solid_of({plus(one, other) for one in standings for other in of_tool}))
            made = barred(tool, solid)
            self.assertTrue(is_solid(made))
            self.assertEqual(made, solid_of({minus(one, other) for one in cubes for other in of_tool}))
            made = neighbours(lot)
            self.assertTrue(is_solid(made))
            self.assertEqual(made, solid_of(beside(standings)))

    def test_nothing(self):
        cube = box((0, 0, 0), (1, 1, 1))
        self.assertEqual((swept((), cube), swept(cube, ()), barred((), cube), barred(cube, ()), neighbours(())),
                         ((), (), (), (), ()))

    def test_a_tool_stands_where_its_point_is(self):
        tool = box((0, 0, 2), (1, 1, 5))
        self.assertEqual(swept(box((7, 8, 9), (8, 9, 10)), tool), box((7, 8, 11), (8, 9, 14)))
        self.assertEqual(barred(tool, box((7, 8, 9), (8, 9, 10))), box((7, 8, 5), (8, 9, 8)))

    def test_a_tool_beside_a_solid_does_not_meet_it(self):
        tool = box((0, 0, 0), (2, 3, 4))
        self.assertEqual(barred(tool, box((0, 0, 0), (10, 10, 10))), box((-1, -2, -3), (10, 10, 10)))


class Unchanged(unittest.TestCase):
    def test_lists_that_are_passed_stay_as_they_are(self):
        solids = [box((k, 0, 0), (k + 1, 1, 1)) for k in range(5)]
        ahead = list(solids)
        self.assertEqual(union_of(solids), union_of(solids))
        self.assertEqual(solids, ahead)

    def test_equal_arguments_equal_answers(self):
        chance = random.Random(6)
        for _ in range(30):
            corners = [random_corners(chance, 0, 6) for _ in range(4)]
            again = [tuple(tuple(list(corner)) for corner in pair) for pair in corners]
            self.assertEqual(union_of([box(*pair) for pair in corners]), union_of([box(*pair) for pair in again]))


if __name__ == "__main__":
    unittest.main()
