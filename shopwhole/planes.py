"""The planes of a lot for two ends, and the steps between the points on them."""

from shopwhole.forms import stretch_at
from shopwhole.plain import with_number
from shopwhole.solids import boxes_of


def plane_numbers(lot, start, end):
    """For each axis the ascending list of the numbers of the planes."""
    corners = boxes_of(lot)
    out = []
    for axis in range(3):
        numbers = [start[axis], end[axis]]
        numbers.extend([low[axis] for low, high in corners])
        numbers.extend([high[axis] - 1 for low, high in corners])
        out.append(sorted(set(numbers)))
    return out


def ranges_round(lot, point):
    """For each axis the stretch of the lot's box that has a standing; None if the lot hasn't it."""
    layer = stretch_at(lot, point[2])
    if layer is None:
        return None
    row = stretch_at(layer[2], point[1])
    if row is None:
        return None
    stretch = stretch_at(row[2], point[0])
    if stretch is None:
        return None
    return stretch, row[:2], layer[:2]


class Planes:
    """The planes of a lot for two ends."""

    def __init__(self, lot, start, end):
        self.lot = lot
        self.numbers = plane_numbers(lot, start, end)
        self.places = [{number: place for place, number in enumerate(row)} for row in self.numbers]
        self.known = {}

    def is_on(self, point):
        """Whether a point is on three planes."""
        return all([point[axis] in self.places[axis] for axis in range(3)])

    def ranges(self, point):
        """What ranges_round tells of a point: as planes are gone through, each is asked for often."""
        if point not in self.known:
            self.known[point] = ranges_round(self.lot, point)
        return self.known[point]

    def beside(self, point):
        """The list of (neighbour on the planes, how far it is) of a point in the lot."""
        out = []
        inside = self.ranges(point)
        for axis in range(3):
            row = self.numbers[axis]
            place = self.places[axis][point[axis]]
            for number in row[max(place - 1, 0):place] + row[place + 1:place + 2]:
                there, step = with_number(point, axis, number), abs(number - point[axis])
                # Between planes no box begins or ends: a step of more than a unit stays in its box, or leaves the lot.
                if inside[axis][0] <= number < inside[axis][1] or (step == 1 and self.ranges(there) is not None):
                    out.append((there, step))
        return out
