"""Promise 16: lots of standings."""

import unittest

from cubes import cubes_of
from shopwhole.lots import cube_at, line_lot, travel_lot
from shopwhole.solids import box, is_solid


class Lots(unittest.TestCase):
    def test_lines_either_way_along_each_axis(self):
        start = (3, -4, 5)
        for axis in range(3):
            for to in range(start[axis] - 3, start[axis] + 4):
                numbers = range(min(to, start[axis]), max(to, start[axis]) + 1)
                wanted = {tuple(number if k == axis else start[k] for k in range(3)) for number in numbers}
                lot = line_lot(start, axis, to)
                self.assertTrue(is_solid(lot))
                self.assertEqual(cubes_of(lot), wanted)

    def test_a_line_of_one_standing(self):
        for axis in range(3):
            self.assertEqual(line_lot((7, 8, 9), axis, (7, 8, 9)[axis]), cube_at((7, 8, 9)))

    def test_one_standing(self):
        self.assertEqual(cube_at((-1, 0, 5)), box((-1, 0, 5), (0, 1, 6)))

    def test_travel(self):
        self.assertEqual(travel_lot(((-2, -3, 0), (6, 7, 8), (0, 0, 4), 1, 5, 20)), box((-2, -3, 0), (7, 8, 9)))
        self.assertEqual(travel_lot(((1, 2, 3), (1, 2, 3), (1, 2, 3), 0, 0, 0)), cube_at((1, 2, 3)))


if __name__ == "__main__":
    unittest.main()
