"""Rows, layers and solids in their one form: what all work on solids rests on.

A row is a tuple of stretches (x0, x1), a layer one of slabs (y0, y1, row), a solid one of slabs
(z0, z1, layer). A slab's third item is its inside; slabs that touch and have the same inside are one.
"""


def first_ending_beyond(stretches, number):
    """The place of the first stretch, or slab, that ends above a number."""
    low, high = 0, len(stretches)
    while low < high:
        middle = (low + high) // 2
        if stretches[middle][1] > number:
            high = middle
        else:
            low = middle + 1
    return low


def first_beginning_from(stretches, number):
    """The place of the first stretch, or slab, that begins at a number or above it."""
    low, high = 0, len(stretches)
    while low < high:
        middle = (low + high) // 2
        if stretches[middle][0] >= number:
            high = middle
        else:
            low = middle + 1
    return low


def stretch_at(stretches, number):
    """The stretch, or slab, that has the unit from a number on; None without one."""
    place = first_ending_beyond(stretches, number)
    if place < len(stretches) and stretches[place][0] <= number:
        return stretches[place]
    return None


def overlaps(a, b):
    """The pairs of places of stretches, or slabs, of the one and of the other that overlap."""
    out = []
    i, j = 0, 0
    while i < len(a) and j < len(b):
        if a[i][0] < b[j][1] and b[j][0] < a[i][1]:
            out.append((i, j))
        if a[i][1] <= b[j][1]:
            i += 1
        else:
            j += 1
    return out


def merged(stretches):
    """The row of ascending stretches, one at least, that may touch and overlap."""
    out = []
    low, high = stretches[0]
    for begin, end in stretches[1:]:
        if begin > high:
            out.append((low, high))
            low, high = begin, end
        elif end > high:
            high = end
    out.append((low, high))
    return tuple(out)


def joined_rows(a, b):
    """What one of two rows, neither empty, has."""
    if a == b:
        return a
    if a[-1][1] < b[0][0]:
        return a + b
    if b[-1][1] < a[0][0]:
        return b + a
    return merged(sorted((*a, *b)))


def met_rows(a, b):
    """What both of two rows have."""
    return tuple([(max(a[i][0], b[j][0]), min(a[i][1], b[j][1])) for i, j in overlaps(a, b)])


def less_rows(a, b):
    """What the first row has and the second one hasn't."""
    out = []
    place = 0
    for low, high in a:
        while place < len(b) and b[place][1] <= low:
            place += 1
        begin, at = low, place
        while at < len(b) and b[at][0] < high:
            if b[at][0] > begin:
                out.append((begin, b[at][0]))
            begin = b[at][1]
            at += 1
        if begin < high:
            out.append((begin, high))
    return tuple(out)


def put(out, low, high, inside):
    """Puts a slab behind those of a list; it goes on with the last one if their insides are the same."""
    if not inside:
        return
    if out and out[-1][1] == low and out[-1][2] == inside:
        out[-1] = (out[-1][0], high, inside)
    else:
        out.append((low, high, inside))


def put_all(out, slabs, begin):
    """Puts slabs behind those of a list, from a number on."""
    for low, high, inside in slabs[:1]:
        put(out, max(low, begin), high, inside)
    out.extend(slabs[1:])


def lay_over(out, a, b, rule, keeps):
    """Puts behind the slabs of a list what comes of two tuples of slabs, each not empty, by combined's rule."""
    i, j = 0, 0
    at = min(a[0][0], b[0][0])
    while i < len(a) and j < len(b):
        from_a, to_a, inside_a = a[i]
        from_b, to_b, inside_b = b[j]
        from_a, from_b = max(from_a, at), max(from_b, at)
        if from_a < from_b:
            at = min(to_a, from_b)
            if keeps[0]:
                put(out, from_a, at, inside_a)
        elif from_b < from_a:
            at = min(to_b, from_a)
            if keeps[1]:
                put(out, from_b, at, inside_b)
        else:
            at = min(to_a, to_b)
            put(out, from_a, at, rule(inside_a, inside_b))
        if to_a <= at:
            i += 1
        if to_b <= at:
            j += 1
    if keeps[0]:
        put_all(out, a[i:], at)
    if keeps[1]:
        put_all(out, b[j:], at)


def combined(a, b, rule, keeps):
    """Slabs of two tuples: where both are, the rule tells the inside; keeps tells whether each stays alone."""
    if not a:
        return b if keeps[1] else ()
    if not b:
        return a if keeps[0] else ()
    # Slabs outside of what the two have in common are taken over whole: little is added to much as a rule.
    low, high = max(a[0][0], b[0][0]), min(a[-1][1], b[-1][1])
    from_a, from_b = first_ending_beyond(a, low), first_ending_beyond(b, low)
    to_a = max(from_a, first_beginning_from(a, high))
    to_b = max(from_b, first_beginning_from(b, high))
    out = list(a[:from_a]) if keeps[0] else []
    if keeps[1]:
        out.extend(b[:from_b])
    if from_a < to_a and from_b < to_b:
        lay_over(out, a[from_a:to_a], b[from_b:to_b], rule, keeps)
    elif keeps[0] and from_a < to_a:
        put_all(out, a[from_a:to_a], a[from_a][0])
    elif keeps[1] and from_b < to_b:
        put_all(out, b[from_b:to_b], b[from_b][0])
    if keeps[0] and to_a < len(a):
        put_all(out, a[to_a:], a[to_a][0])
    if keeps[1] and to_b < len(b):
        put_all(out, b[to_b:], b[to_b][0])
    return tuple(out)


def joined_layers(a, b):
    """What one of two layers has."""
    return combined(a, b, joined_rows, (True, True))


def met_layers(a, b):
    """What both of two layers have."""
    return combined(a, b, met_rows, (False, False))


def less_layers(a, b):
    """What the first layer has and the second one hasn't."""
    return combined(a, b, less_rows, (True, False))


def stacked(slabs, rule):
    """Slabs in the order of their beginnings, which may touch and overlap, in their form."""
    if len(slabs) < 2:
        return tuple(slabs)
    half = len(slabs) // 2
    return combined(stacked(slabs[:half], rule), stacked(slabs[half:], rule), rule, (True, True))


def grown_layer(layer, low, high):
    """A layer with each box drawn out from low to high."""
    rows = []
    for begin, end, row in layer:
        wider = merged([(x0 + low[0], x1 + high[0]) for x0, x1 in row])
        rows.append((begin + low[1], end + high[1], wider))
    return stacked(rows, joined_rows)


def grown(solid, low, high):
    """The union of a solid's boxes with their near corners moved by low, their far ones by high."""
    layers = [(begin + low[2], end + high[2], grown_layer(layer, low, high)) for begin, end, layer in solid]
    return stacked(layers, joined_layers)


def count_of(solid):
    """How many boxes the form of a solid has."""
    return sum([len(row) for _, _, layer in solid for _, _, row in layer])
