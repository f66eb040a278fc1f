"""Which boxes of a solid hang together by faces."""

from shopwhole.forms import overlaps, put


def root_of(parents, number):
    """The number by which the group of a box is known."""
    while parents[number] != number:
        parents[number] = parents[parents[number]]
        number = parents[number]
    return number


def link(parents, one, other):
    """Makes one group of those of two boxes."""
    one, other = root_of(parents, one), root_of(parents, other)
    parents[max(one, other)] = min(one, other)


def link_rows(parents, one, other):
    """Links the boxes of two rows, (row, the number of its first box), that lie face to face."""
    for i, j in overlaps(one[0], other[0]):
        link(parents, one[1] + i, other[1] + j)


def numbered(solid):
    """For each layer the list of (y0, y1, row, the number of its first box), and how many boxes there are."""
    layers = []
    number = 0
    for _, _, layer in solid:
        rows = []
        for low, high, row in layer:
            rows.append((low, high, row, number))
            number += len(row)
        layers.append(rows)
    return layers, number


def groups_of(solid):
    """For each box of a solid, in their order, the number of the group that it hangs together with."""
    layers, many = numbered(solid)
    parents = list(range(many))
    for rows in layers:
        for near, far in zip(rows, rows[1:]):
            if near[1] == far[0]:
                link_rows(parents, near[2:], far[2:])
    for place in range(1, len(layers)):
        if solid[place - 1][1] == solid[place][0]:
            under, over = layers[place - 1], layers[place]
            for i, j in overlaps(under, over):
                link_rows(parents, under[i][2:], over[j][2:])
    return [root_of(parents, number) for number in range(many)]


def shared_out(row, groups):
    """The dict of groups to the stretches of a row that are theirs."""
    out = {}
    for stretch, group in zip(row, groups):
        out.setdefault(group, []).append(stretch)
    return out


def parted(solid, groups):
    """The dict of groups to the solids of their boxes."""
    parts = {}
    number = 0
    for low, high, layer in solid:
        rows = {}
        for near, far, row in layer:
            shares = shared_out(row, groups[number:number + len(row)])
            for group, stretches in shares.items():
                put(rows.setdefault(group, []), near, far, tuple(stretches))
            number += len(row)
        for group, made in rows.items():
            put(parts.setdefault(group, []), low, high, tuple(made))
    return {group: tuple(made) for group, made in parts.items()}


def number_of_box(solid, point):
    """The number of the box that has the unit cube from a point on; None without one."""
    number = 0
    for low, high, layer in solid:
        for near, far, row in layer:
            if low <= point[2] < high and near <= point[1] < far:
                for place, (begin, end) in enumerate(row):
                    if begin <= point[0] < end:
                        return number + place
            number += len(row)
    return None
