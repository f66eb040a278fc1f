"""Blanks sawn out of a plate from side to side, and fronts of sizes that show that it is too small."""

from itertools import combinations

from shopwhole.plain import is_integer, is_tuple_of

MOST_BLANKS = 6


def is_length(thing):
    """Whether a thing is an integer above 0."""
    return is_integer(thing) and thing > 0


def is_blank(thing):
    """Whether a thing is (name, wide, deep, may_turn)."""
    if not is_tuple_of(thing, 4) or not isinstance(thing[0], str) or not isinstance(thing[3], bool):
        return False
    return is_length(thing[1]) and is_length(thing[2])


def are_blanks(thing):
    """Whether a thing is blanks."""
    if not isinstance(thing, tuple) or not 1 <= len(thing) <= MOST_BLANKS:
        return False
    if not all([is_blank(blank) for blank in thing]):
        return False
    return len(set([blank[0] for blank in thing])) == len(thing)


def ways_round(blank):
    """The list of whether a blank is turned, for each way in which it may lie."""
    return [False, True] if blank[3] else [False]


def size_of_blank(blank, is_turned):
    """The size of a blank as it lies."""
    return (blank[2], blank[1]) if is_turned else (blank[1], blank[2])


def put_beside(word, one, other, saw):
    """The size of two pieces of such sizes along x, or y, with the saw's width between them."""
    if word == "x":
        return (one[0] + saw + other[0], max(one[1], other[1]))
    return (max(one[0], other[0]), one[1] + saw + other[1])


def fits(size, other):
    """Whether a size is nowhere above another one."""
    return size[0] <= other[0] and size[1] <= other[1]


def is_node(thing):
    """Whether a thing looks like a tree, whatever its own trees are."""
    return is_tuple_of(thing, 3) and isinstance(thing[0], str) and thing[0] in ("x", "y", "blank")


def nodes_of(tree):
    """The list of a tree and all trees in it, each ahead of its own, first ones ahead; None for no tree."""
    # No recursion: what is asked about may be deeper than any tree.
    out, waiting = [], [tree]
    while waiting:
        node = waiting.pop()
        if not is_node(node):
            return None
        out.append(node)
        if node[0] != "blank":
            waiting.append(node[2])
            waiting.append(node[1])
    return out


def size_of_leaf(blanks, leaf):
    """The size of ("blank", name, is_turned); None for a thing that is none."""
    for blank in blanks:
        if blank[0] == leaf[1] and isinstance(leaf[2], bool) and leaf[2] in ways_round(blank):
            return size_of_blank(blank, leaf[2])
    return None


def size_of_tree(blanks, tree, saw):
    """The size of a tree, None for a thing that is no tree of these blanks."""
    nodes = nodes_of(tree)
    if nodes is None:
        return None
    sizes = []
    for node in nodes[::-1]:
        if node[0] == "blank":
            size = size_of_leaf(blanks, node)
            if size is None:
                return None
        else:
            one = sizes.pop()
            size = put_beside(node[0], one, sizes.pop(), saw)
        sizes.append(size)
    return sizes[0]


def names_of(blanks):
    """The list of the names of blanks."""
    return [blank[0] for blank in blanks]


def is_cutting(blanks, plate, saw, tree):
    """Whether a thing is a tree with each of the blanks once, and nowhere above the plate."""
    size = size_of_tree(blanks, tree, saw)
    if size is None or not fits(size, plate):
        return False
    return sorted([node[1] for node in nodes_of(tree) if node[0] == "blank"]) == sorted(names_of(blanks))


def places_of(blanks, tree, saw, corner):
    """The list of (name, corner, other corner) of a tree's blanks, if its near corner is at a point."""
    out, waiting = [], [(tree, corner)]
    while waiting:
        node, (x, y) = waiting.pop()
        if node[0] == "blank":
            wide, deep = size_of_leaf(blanks, node)
            out.append((node[1], (x, y), (x + wide, y + deep)))
        else:
            wide, deep = size_of_tree(blanks, node[1], saw)
            behind = (x + wide + saw, y) if node[0] == "x" else (x, y + deep + saw)
            waiting.append((node[2], behind))
            waiting.append((node[1], (x, y)))
    return out


def lots_of(blanks):
    """The list of all lots of names, in the order of blanks, smaller ones ahead."""
    names = names_of(blanks)
    return [lot for many in range(1, len(names) + 1) for lot in combinations(names, many)]


def partings_of(lot):
    """The list of all partings of a lot in two, that ahead which has the first name."""
    out = []
    others = list(lot[1:])
    for many in range(len(others)):
        for beside in combinations(others, many):
            one = (lot[0], *beside)
            out.append((one, tuple([name for name in lot if name not in one])))
    return out


def blank_of(blanks, name):
    """The blank of a name."""
    return blanks[names_of(blanks).index(name)]


def least_trees(found):
    """Of a dict of sizes to trees, those that no other size is nowhere above, sizes ascending."""
    out = {}
    least = None
    for size in sorted(found):
        if least is None or size[1] < least:
            out[size] = found[size]
            least = size[1]
    return out


def trees_for(blanks, lot, saw, known):
    """The dict of least sizes to trees for a lot, by those of all smaller ones."""
    found = {}
    if len(lot) == 1:
        blank = blank_of(blanks, lot[0])
        for is_turned in ways_round(blank):
            found.setdefault(size_of_blank(blank, is_turned), ("blank", lot[0], is_turned))
    for near, far in partings_of(lot):
        for one, tree in known[near].items():
            for other, behind in known[far].items():
                for word in ("x", "y"):
                    found.setdefault(put_beside(word, one, other, saw), (word, tree, behind))
    return least_trees(found)


def trees_of(blanks, saw):
    """The dict of all lots to the dicts of their least sizes to trees."""
    known = {}
    for lot in lots_of(blanks):
        known[lot] = trees_for(blanks, lot, saw, known)
    return known


def sizes_of(trees):
    """The dict of lots to their ascending sizes, of that of their trees."""
    return {lot: tuple(list(found)) for lot, found in trees.items()}


def fronts_of(blanks, saw):
    """The dict of all lots of names to the ascending tuple of the least sizes of their trees."""
    return sizes_of(trees_of(blanks, saw))


def cut_up(blanks, plate, saw):
    """("made", tree), or ("never", fronts) if there is none."""
    trees = trees_of(blanks, saw)
    for size, tree in trees[tuple(names_of(blanks))].items():
        if fits(size, plate):
            return "made", tree
    return "never", sizes_of(trees)


def is_size(thing):
    """Whether a thing is a size."""
    return is_tuple_of(thing, 2) and is_integer(thing[0]) and is_integer(thing[1])


def is_covered(size, front):
    """Whether one of some sizes is nowhere above a size."""
    return any([fits(other, size) for other in front])


def is_front(blanks, lot, saw, fronts):
    """Whether all that a lot's trees can come to, if smaller lots' fronts are right, is covered by its own one."""
    if len(lot) == 1:
        blank = blank_of(blanks, lot[0])
        return all([is_covered(size_of_blank(blank, is_turned), fronts[lot]) for is_turned in ways_round(blank)])
    for near, far in partings_of(lot):
        for one in fronts[near]:
            for other in fronts[far]:
                if not all([is_covered(put_beside(word, one, other, saw), fronts[lot]) for word in ("x", "y")]):
                    return False
    return True


def is_never(blanks, plate, saw, fronts):
    """Whether a thing is fronts that show that no tree cuts the blanks out of a plate."""
    if not isinstance(fronts, dict):
        return False
    lots = lots_of(blanks)
    for lot in lots:
        front = fronts.get(lot, None)
        if not isinstance(front, tuple) or not all([is_size(size) for size in front]):
            return False
    if not all([is_front(blanks, lot, saw, fronts) for lot in lots]):
        return False
    return not any([fits(size, plate) for size in fronts[lots[-1]]])
