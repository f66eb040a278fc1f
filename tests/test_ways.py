"""Promise 11: least ways."""

import random
import unittest

from cubes import beside, cubes_of, flooded, random_solid, solid_of
from shopwhole.lots import cube_at
from shopwhole.solids import box, boxes_of, less, piece_with, union
from shopwhole.ways import heights_for, is_least_way, is_parted, is_way, length_of, way_in

MAZE = less(box((0, 0, 0), (5, 5, 1)), box((1, 0, 0), (2, 4, 1)))


def planes_of(lot, start, end):
    out = []
    for axis in range(3):
        numbers = {start[axis], end[axis]}
        for low, high in boxes_of(lot):
            numbers |= {low[axis], high[axis] - 1}
        out.append(sorted(numbers))
    return out


def on_planes(planes, point):
    return all(point[axis] in planes[axis] for axis in range(3))


def random_lot(chance):
    lot, cubes = random_solid(chance, 0, 7, 9)
    return (lot, cubes) if cubes else random_lot(chance)


class Ways(unittest.TestCase):
    def test_ways_that_are_taken(self):
        for way in (((0, 0, 0),), ((0, 0, 0), (0, 4, 0)), ((0, 0, 0), (0, 4, 0), (4, 4, 0), (4, 0, 0)),
                    ((0, 0, 0), (0, 2, 0), (0, 4, 0)), ((0, 3, 0), (0, 4, 0), (0, 1, 0))):
            self.assertIs(is_way(MAZE, way), True, way)

    def test_ways_that_are_not_taken(self):
        for way in ((), ((1, 0, 0),), ((0, 0, 0), (0, 0, 0)), ((0, 0, 0), (2, 0, 0)), ((0, 0, 0), (2, 4, 0)),
                    ((0, 0, 0), (0, 5, 0)), ((0, 0, 0), (0, 4, 0), (4, 4, 0), (0, 0, 0)), ((0, 0, -1),),
                    [(0, 0, 0)], ([0, 0, 0],), ((0, 0),), ((0, 0, False),), None, 5, ((0, 0, 0), None),
                    ((0, 0, 0), (0, 4, 0), (0, 4, 0))):
            self.assertIs(is_way(MAZE, way), False, way)

    def test_length(self):
        self.assertEqual(length_of(((3, 4, 5),)), 0)
        self.assertEqual(length_of(((0, 0, 0), (0, 4, 0), (-4, 4, 0), (-4, 4, -7))), 15)

    def test_least_ways_against_own_search(self):
        chance = random.Random(1)
        for _ in range(150):
            lot, cubes = random_lot(chance)
            start, end = chance.choice(sorted(cubes)), chance.choice(sorted(cubes))
            far = flooded(cubes, start)
            way = way_in(lot, start, end)
            if end not in far:
                self.assertIsNone(way)
                continue
            self.assertIs(is_way(lot, way), True)
            self.assertEqual((way[0], way[-1], length_of(way)), (start, end, far[end]))
            for one, two, three in zip(way, way[1:], way[2:]):
                axes = [[axis for axis in range(3) if a[axis] != b[axis]] for a, b in ((one, two), (two, three))]
                self.assertNotEqual(axes[0], axes[1])
            self.assertEqual(way_in(lot, start, end), way)

    def test_heights_against_own_search(self):
        chance = random.Random(2)
        for _ in range(100):
            lot, cubes = random_lot(chance)
            start, end = chance.choice(sorted(cubes)), chance.choice(sorted(cubes))
            planes = planes_of(lot, start, end)
            wanted = {cube: far for cube, far in flooded(cubes, start).items() if on_planes(planes, cube)}
            self.assertEqual(heights_for(lot, start, end), wanted)

    def test_heights_where_the_end_is_outside(self):
        heights = heights_for(MAZE, (0, 0, 0), (1, 2, 0))
        self.assertEqual((heights[(0, 2, 0)], heights[(2, 2, 0)], (1, 2, 0) in heights), (2, 8, False))
        self.assertEqual(heights_for(MAZE, (0, 0, 0), (4, 0, 3))[(4, 0, 0)], 12)

        # A step beside the lot, along each axis: the planes through the end have nothing of the lot.
        for end in ((5, 0, 0), (-1, 0, 0), (0, 5, 0), (0, -1, 0), (0, 0, 1), (0, 0, -1)):
            cubes = cubes_of(MAZE)
            wanted = {cube: far for cube, far in flooded(cubes, (0, 0, 0)).items()
                      if on_planes(planes_of(MAZE, (0, 0, 0), end), cube)}
            self.assertEqual(heights_for(MAZE, (0, 0, 0), end), wanted)

    def test_mazes_against_own_search(self):
        chance = random.Random(12)
        for _ in range(150):
            all_cubes = sorted(cubes_of(box((0, 0, 0), (chance.randint(5, 9), chance.randint(5, 9), chance.randint(1, 2)))))
            cubes = set(chance.sample(all_cubes, int(len(all_cubes) * chance.uniform(0.55, 0.8))))
            lot = solid_of(cubes)
            start = chance.choice(sorted(cubes))
            far = flooded(cubes, start)
            for end in chance.sample(sorted(far), min(4, len(far))):
                way = way_in(lot, start, end)
                self.assertIs(is_way(lot, way), True)
                self.assertEqual((way[0], way[-1], length_of(way)), (start, end, far[end]))
                heights = heights_for(lot, start, end)
                self.assertEqual(heights, {cube: far[cube] for cube in far
                                           if on_planes(planes_of(lot, start, end), cube)})
                self.assertIs(is_least_way(lot, way, heights), True)

    def test_ends_outside_of_the_lot(self):
        self.assertIsNone(way_in(MAZE, (1, 0, 0), (0, 0, 0)))
        self.assertIsNone(way_in(MAZE, (0, 0, 0), (1, 0, 0)))
        self.assertIsNone(way_in(MAZE, (9, 9, 9), (9, 9, 9)))
        self.assertIsNone(way_in((), (0, 0, 0), (0, 0, 0)))

    def test_a_way_of_one_standing(self):
        self.assertEqual(way_in(MAZE, (3, 3, 0), (3, 3, 0)), ((3, 3, 0),))

    def test_a_lot_as_large_as_lots_may_be(self):
        far = 10 ** 9
        lot = less(box((-far, -far, 0), (far, far, 2)), box((-far, -1, 0), (far - 1, 1, 2)))
        start, end = (-far, -far, 0), (-far, far - 1, 0)
        way = way_in(lot, start, end)
        self.assertEqual(length_of(way), 2 * (2 * far - 1) + 2 * far - 1)
        self.assertIs(is_least_way(lot, way, heights_for(lot, start, end)), True)

    def test_parts_that_hang_together_by_a_corner(self):
        lot = union(box((0, 0, 0), (2, 2, 1)), box((2, 2, 0), (4, 4, 1)))
        self.assertIsNone(way_in(lot, (0, 0, 0), (3, 3, 0)))
        self.assertNotIn((2, 2, 0), heights_for(lot, (0, 0, 0), (3, 3, 0)))


class Least(unittest.TestCase):
    def test_heights_are_taken(self):
        chance = random.Random(3)
        for _ in range(100):
            lot, cubes = random_lot(chance)
            start = chance.choice(sorted(cubes))
            end = chance.choice(sorted(flooded(cubes, start)))
            heights = heights_for(lot, start, end)
            ahead = dict(heights)
            way = way_in(lot, start, end)
            self.assertIs(is_least_way(lot, way, heights), True)
            self.assertEqual(heights, ahead)

    def test_changed_heights_are_not_taken(self):
        chance = random.Random(4)
        for _ in range(60):
            lot, cubes = random_lot(chance)
            start = chance.choice(sorted(cubes))
            reached = flooded(cubes, start)
            end = chance.choice(sorted(reached))
            heights, way = heights_for(lot, start, end), way_in(lot, start, end)
            point = chance.choice(sorted(heights))
            self.assertIs(is_least_way(lot, way, {**heights, point: heights[point] + 1}), False)
            lower = {**heights, start: heights[start] - 1}
            self.assertIs(is_least_way(lot, way, lower), False)
            if len(heights) > 1:
                less_told = {key: heights[key] for key in heights if key != point}
                self.assertIs(is_least_way(lot, way, less_told), False)
            self.assertIs(is_least_way(lot, way, {}), False)
            outside = min(beside(cubes) - cubes)
            self.assertIs(is_least_way(lot, way, {**heights, outside: 10 ** 6}), False)

    def test_points_off_the_planes_are_not_taken(self):
        lot = box((0, 0, 0), (5, 5, 1))
        way, heights = ((0, 0, 0), (4, 0, 0)), heights_for(lot, (0, 0, 0), (4, 0, 0))
        self.assertEqual(sorted(heights), [(0, 0, 0), (0, 4, 0), (4, 0, 0), (4, 4, 0)])
        self.assertIs(is_least_way(lot, way, heights), True)
        self.assertIs(is_least_way(lot, way, {**heights, (2, 0, 0): 2}), False)

    def test_points_on_planes_outside_of_the_lot_are_not_taken(self):
        lot = union(MAZE, box((1, 0, 3), (2, 1, 4)))
        way = ((0, 0, 0), (0, 4, 0))
        heights = heights_for(lot, *way)
        self.assertIs(is_least_way(lot, way, heights), True)
        self.assertIs(is_least_way(lot, way, {**heights, (1, 0, 0): 1}), False)
        self.assertIs(is_least_way(lot, way, {**heights, (1, 0, 3): 1}), True)

    def test_longer_ways_are_not_taken(self):
        start, end = (0, 0, 0), (0, 4, 0)
        heights = heights_for(MAZE, start, end)
        self.assertIs(is_least_way(MAZE, (start, end), heights), True)
        longer = (start, (0, 2, 0), (0, 1, 0), end)
        self.assertIs(is_way(MAZE, longer), True)
        self.assertIs(is_least_way(MAZE, longer, heights), False)
        self.assertIs(is_least_way(MAZE, longer, {**heights, end: 6}), False)
        self.assertIs(is_least_way(MAZE, (start, (0, 2, 0), end), heights_for(MAZE, start, end)), True)
        self.assertIs(is_least_way(MAZE, (start, (2, 0, 0)), heights), False)

    def test_no_path_off_the_shorter_one_may_be_left_out(self):
        # Heights that tell only the points on a longer way: one of them has a neighbour that lacks.
        lot = less(box((0, 0, 0), (7, 7, 1)), box((2, 1, 0), (5, 6, 1)))
        start, end = (0, 3, 0), (6, 3, 0)
        way = ((0, 3, 0), (0, 6, 0), (6, 6, 0), (6, 3, 0))
        heights = heights_for(lot, start, end)
        self.assertEqual(length_of(way), heights[end])
        on_way = {point: heights[point] for point in heights if point[1] >= 3}
        self.assertIs(is_least_way(lot, way, on_way), False)

    def test_other_heights_that_show_it_are_taken(self):
        # What lies behind the end may be told lower than it is.
        lot = box((0, 0, 0), (5, 1, 1))
        way = ((1, 0, 0), (3, 0, 0))
        heights = heights_for(lot, way[0], way[-1])
        self.assertEqual(heights, {(0, 0, 0): 1, (1, 0, 0): 0, (3, 0, 0): 2, (4, 0, 0): 3})
        self.assertIs(is_least_way(lot, way, {**heights, (4, 0, 0): 1}), True)
        self.assertIs(is_least_way(lot, way, {**heights, (4, 0, 0): 0}), False)
        self.assertIs(is_least_way(lot, way, {**heights, (4, 0, 0): 4}), False)

    def test_things_that_are_no_heights(self):
        way = ((0, 0, 0), (0, 4, 0))
        heights = heights_for(MAZE, *way)
        for thing in (None, 5, [], list(heights.items()), {**heights, (0, 0, 0): False}, {**heights, (0, 4, 0): "4"},
                      {**heights, 5: 5}, {**heights, (0, 0): 5}, {**heights, (0, 4, 0): None}):
            self.assertIs(is_least_way(MAZE, way, thing), False)
        self.assertIs(is_least_way(MAZE, [(0, 0, 0), (0, 4, 0)], heights), False)
        self.assertIs(is_least_way(MAZE, (), heights), False)


class Parted(unittest.TestCase):
    def test_against_own_search(self):
        chance = random.Random(5)
        shown = 0
        for _ in range(150):
            lot, cubes = random_lot(chance)
            start, end = chance.choice(sorted(cubes)), chance.choice(sorted(cubes))
            side = piece_with(lot, start)
            is_apart = end not in flooded(cubes, start)
            shown += is_apart
            self.assertIs(is_parted(lot, start, end, side), is_apart)
            self.assertIs(is_parted(lot, start, end, lot), False)
            if is_apart:
                self.assertIs(is_parted(lot, end, start, side), False)
                lacking = less(side, cube_at(max(cubes_of(side))))
                if max(cubes_of(side)) != start and len(cubes_of(side)) > 1:
                    self.assertIs(is_parted(lot, start, end, lacking), False)
                more = solid_of(beside(cubes_of(side)))
                self.assertIs(is_parted(lot, start, end, more), False)
        self.assertGreater(shown, 10)

    def test_several_parts_on_one_side(self):
        lot = union(union(cube_at((0, 0, 0)), cube_at((5, 0, 0))), cube_at((9, 0, 0)))
        side = union(cube_at((0, 0, 0)), cube_at((5, 0, 0)))
        self.assertIs(is_parted(lot, (0, 0, 0), (9, 0, 0), side), True)
        self.assertIs(is_parted(lot, (0, 0, 0), (5, 0, 0), side), False)
        self.assertIs(is_parted(lot, (0, 0, 0), (7, 0, 0), side), False)
        self.assertIs(is_parted(lot, (1, 0, 0), (9, 0, 0), side), False)

    def test_things_that_are_no_lots(self):
        lot = union(cube_at((0, 0, 0)), cube_at((5, 0, 0)))
        for side in (None, 5, [], ((0, 1, ()),), list(cube_at((0, 0, 0))), ()):
            self.assertIs(is_parted(lot, (0, 0, 0), (5, 0, 0), side), False)


if __name__ == "__main__":
    unittest.main()
