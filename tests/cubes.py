"""Own counts of unit cubes, against which the tests hold what the program says."""

from shopwhole.solids import box, boxes_of, less, union, union_of

STEPS = ((1, 0, 0), (-1, 0, 0), (0, 1, 0), (0, -1, 0), (0, 0, 1), (0, 0, -1))


def plus(point, other):
    return (point[0] + other[0], point[1] + other[1], point[2] + other[2])


def minus(point, other):
    return (point[0] - other[0], point[1] - other[1], point[2] - other[2])


def cubes_of_box(corner, other):
    return {(x, y, z) for x in range(corner[0], other[0]) for y in range(corner[1], other[1])
            for z in range(corner[2], other[2])}


def cubes_of(solid):
    """The unit cubes of a solid; its boxes must not overlap."""
    out = set()
    for corner, other in boxes_of(solid):
        found = cubes_of_box(corner, other)
        assert found and not found & out
        out |= found
    return out


def solid_of(cubes):
    """The solid of unit cubes."""
    return union_of([box(cube, plus(cube, (1, 1, 1))) for cube in sorted(cubes)])


def random_corners(random, low, high):
    pairs = [sorted(random.sample(range(low, high + 1), 2)) for _ in range(3)]
    return tuple(pair[0] for pair in pairs), tuple(pair[1] for pair in pairs)


def random_solid(random, low=-2, high=4, most=5):
    """A solid of some boxes, put together and taken off, and its unit cubes."""
    solid, cubes = (), set()
    for _ in range(random.randint(0, most)):
        corners = random_corners(random, low, high)
        if random.random() < 0.65:
            solid, cubes = union(solid, box(*corners)), cubes | cubes_of_box(*corners)
        else:
            solid, cubes = less(solid, box(*corners)), cubes - cubes_of_box(*corners)
    return solid, cubes


def random_point(random, low=-3, high=5):
    return tuple(random.randint(low, high) for _ in range(3))


def beside(cubes):
    """The cubes and all that are face to face with one of them."""
    return cubes | {plus(cube, step) for cube in cubes for step in STEPS}


def flooded(cubes, start):
    """What of the cubes can be come to from one of them, face by face, to how many steps away it is."""
    far, queue = {start: 0}, [start]
    for cube in queue:
        for step in STEPS:
            there = plus(cube, step)
            if there in cubes and there not in far:
                far[there] = far[cube] + 1
                queue.append(there)
    return far
