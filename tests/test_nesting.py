"""Promise 36: blanks sawn out of a plate."""

import itertools
import random
import unittest

from shopwhole.nesting import are_blanks, cut_up, fronts_of, is_cutting, is_never, places_of, size_of_tree

AB = (("a", 3, 2, True), ("b", 2, 2, False))
TREE = ("x", ("blank", "a", False), ("blank", "b", False))


def random_blanks(chance, most, longest=6):
    return tuple([(name, chance.randint(1, longest), chance.randint(1, longest), chance.random() < 0.5)
                  for name in "abcdef"[:chance.randint(1, most)]])


def own_trees(blanks):
    """All trees with each of the blanks once."""
    if len(blanks) == 1:
        return [("blank", blanks[0][0], is_turned) for is_turned in (False, True)[:1 + blanks[0][3]]]
    out = []
    for sides in itertools.product((0, 1), repeat=len(blanks)):
        if 0 < sum(sides) < len(blanks):
            near, far = [[blank for blank, side in zip(blanks, sides) if side == k] for k in (0, 1)]
            for one, other, word in itertools.product(own_trees(near), own_trees(far), "xy"):
                out.append((word, one, other))
    return out


def own_size(blanks, tree, saw):
    if tree[0] == "blank":
        (wide, deep), = [blank[1:3] for blank in blanks if blank[0] == tree[1]]
        return (deep, wide) if tree[2] else (wide, deep)
    (a, b), (c, d) = own_size(blanks, tree[1], saw), own_size(blanks, tree[2], saw)
    return (a + saw + c, max(b, d)) if tree[0] == "x" else (max(a, c), b + saw + d)


def own_front(blanks, saw):
    sizes = {own_size(blanks, tree, saw) for tree in own_trees(blanks)}
    return tuple(sorted(size for size in sizes
                        if not any(other != size and other[0] <= size[0] and other[1] <= size[1] for other in sizes)))


def names_in(tree):
    return [tree[1]] if tree[0] == "blank" else names_in(tree[1]) + names_in(tree[2])


class Blanks(unittest.TestCase):
    def test_blanks(self):
        for blanks in (AB, AB[:1], AB[1:], tuple([(name, 1, 1, True) for name in "abcdef"]), (("", 10 ** 9, 1, False),)):
            self.assertIs(are_blanks(blanks), True)

    def test_things_that_are_no_blanks(self):
        for blank in (("a", 3, 2), ("a", 3, 2, True, 1), ["a", 3, 2, True], ("a", 0, 2, True), ("a", 3, 0, True),
                      ("a", -1, 2, True), ("a", True, 2, True), ("a", 3, True, True), ("a", 3, 2, 1), ("a", 3, 2, None),
                      ("a", 3, 2, 0), ("a", "3", 2, True), ("a", None, 2, True), (5, 3, 2, True), (None, 3, 2, True),
                      None, 5, "abcd", (), {}, ([], 3, 2, True)):
            self.assertIs(are_blanks((blank,)), False, blank)
            self.assertIs(are_blanks((("z", 1, 1, True), blank)), False, blank)
        for thing in (None, (), [], list(AB), {}, 5, "ab", AB[0], (AB[0], AB[0]), (AB[0], ("a", 1, 1, False)),
                      tuple([(name, 1, 1, True) for name in "abcdefg"])):
            self.assertIs(are_blanks(thing), False, thing)


class Trees(unittest.TestCase):
    def test_sizes(self):
        self.assertEqual(size_of_tree(AB, TREE, 1), (6, 2))
        self.assertEqual(size_of_tree(AB, ("y", *TREE[1:]), 1), (3, 5))
        self.assertEqual(size_of_tree(AB, ("x", ("blank", "a", True), ("blank", "b", False)), 0), (4, 3))
        self.assertEqual(size_of_tree(AB, ("blank", "a", True), 7), (2, 3))
        # A tree may tell a blank twice: then it is no cutting.
        self.assertEqual(size_of_tree(AB, ("y", TREE, ("blank", "b", False)), 1), (6, 5))
        self.assertIs(is_cutting(AB, (99, 99), 1, ("y", TREE, ("blank", "b", False))), False)

    def test_drawn_trees(self):
        chance = random.Random(1)
        for _ in range(60):
            blanks, saw = random_blanks(chance, 4), chance.randint(0, 2)
            tree = chance.choice(own_trees(blanks))
            size = own_size(blanks, tree, saw)
            self.assertEqual(size_of_tree(blanks, tree, saw), size)
            self.assertIs(is_cutting(blanks, size, saw, tree), True)
            self.assertIs(is_cutting(blanks, (size[0] + 3, size[1]), saw, tree), True)
            self.assertIs(is_cutting(blanks, (size[0] - 1, size[1] + 9), saw, tree), False)
            self.assertIs(is_cutting(blanks, (size[0] + 9, size[1] - 1), saw, tree), False)
            self.assert_places(blanks, tree, saw)

    def assert_places(self, blanks, tree, saw):
        places = places_of(blanks, tree, saw, (5, -7))
        self.assertIsInstance(places, list)
        self.assertEqual([name for name, _, _ in places], names_in(tree))
        size = own_size(blanks, tree, saw)
        self.assertEqual((min(low[0] for _, low, _ in places), min(low[1] for _, low, _ in places)), (5, -7))
        self.assertEqual((max(high[0] for _, _, high in places), max(high[1] for _, _, high in places)),
                         (5 + size[0], -7 + size[1]))
        told = {blank[0]: blank for blank in blanks}
        for name, low, high in places:
            lengths = (high[0] - low[0], high[1] - low[1])
            self.assertIn(lengths, (told[name][1:3], told[name][2:0:-1] if told[name][3] else None))
        for (_, low, high), (_, near, far) in itertools.combinations(places, 2):
            self.assertTrue(any(high[k] + saw <= near[k] or far[k] + saw <= low[k] for k in (0, 1)))

    def test_places(self):
        self.assertEqual(places_of(AB, TREE, 1, (0, 0)), [("a", (0, 0), (3, 2)), ("b", (4, 0), (6, 2))])
        back = ("y", TREE[2], ("blank", "a", True))
        self.assertEqual(places_of(AB, back, 2, (10, 20)), [("b", (10, 20), (12, 22)), ("a", (10, 24), (12, 27))])
        self.assertEqual(places_of(AB, TREE[1], 2, (-1, -1)), [("a", (-1, -1), (2, 1))])

    def test_things_that_are_no_trees(self):
        for thing in (None, 5, (), "blank", ("blank", "a"), ("blank", "a", False, 1), ("blank", "c", False),
                      ("blank", "b", True), ("blank", "a", 0), ("blank", "a", 1), ("blank", "a", None), ["blank", "a", False],
                      ("z", *TREE[1:]), ("x", TREE[1]), ("x", *TREE[1:], TREE[1]), ("x", TREE[1], None), [*TREE],
                      ("x", TREE[1], ["blank", "b", False]), ("y", (), ()), (1, TREE[1], TREE[2]), ("blank", 5, False),
                      ("blank", None, False), ("x", TREE, ("blank", "b", True)), ("blank", ["a"], False), "xyz"):
            self.assertIsNone(size_of_tree(AB, thing, 1), thing)
            self.assertIs(is_cutting(AB, (99, 99), 1, thing), False, thing)

    def test_trees_deeper_than_any_that_cuts(self):
        deep = ("blank", "a", False)
        for _ in range(3000):
            deep = ("x", deep, ("blank", "b", False))
        self.assertEqual(size_of_tree(AB, deep, 1), (3 + 3 * 3000, 2))
        self.assertIs(is_cutting(AB, (99999, 99), 1, deep), False)

    def test_cuttings_have_all_blanks_once(self):
        for tree in (TREE[1], TREE[2], ("x", TREE[1], TREE[1]), ("x", TREE, TREE[1])):
            self.assertIs(is_cutting(AB, (99, 99), 1, tree), False)
        self.assertIs(is_cutting(AB, (6, 2), 1, TREE), True)
        self.assertIs(is_cutting(AB, (5, 2), 0, TREE), True)
        self.assertIs(is_cutting(AB, (5, 2), 1, TREE), False)


class Cutting(unittest.TestCase):
    def test_against_trying_all(self):
        chance = random.Random(2)
        words = []
        for _ in range(60):
            blanks, saw = random_blanks(chance, 4), chance.choice((0, 0, 1, 2))
            front = own_front(blanks, saw)
            fronts = fronts_of(blanks, saw)
            for _ in range(6):
                plate = (chance.randint(1, 14), chance.randint(1, 14))
                can = any(size[0] <= plate[0] and size[1] <= plate[1] for size in front)
                word, told = cut_up(blanks, plate, saw)
                words.append(word)
                self.assertEqual(word, "made" if can else "never")
                self.assertIs(is_never(blanks, plate, saw, fronts), not can)
                if can:
                    self.assertIs(is_cutting(blanks, plate, saw, told), True)
                else:
                    self.assertIs(is_never(blanks, plate, saw, told), True)
        self.assertGreater(words.count("made"), 60)
        self.assertGreater(words.count("never"), 60)

    def test_fronts_against_all_trees(self):
        chance = random.Random(3)
        for _ in range(40):
            blanks, saw = random_blanks(chance, 4), chance.randint(0, 2)
            wanted = {}
            for many in range(1, len(blanks) + 1):
                for lot in itertools.combinations(blanks, many):
                    wanted[tuple([blank[0] for blank in lot])] = own_front(lot, saw)
            self.assertEqual(fronts_of(blanks, saw), wanted)

    def test_blanks_that_may_not_turn(self):
        for may_turn in (True, False):
            blanks = (("long", 9, 1, may_turn), ("low", 1, 4, False))
            self.assertEqual(cut_up(blanks, (2, 9), 0)[0], "made" if may_turn else "never")
            self.assertEqual(cut_up(blanks, (10, 4), 0)[0], "made")
            self.assertEqual(cut_up(blanks, (10, 4), 1)[0], "never")

    def test_a_square_that_turns(self):
        self.assertEqual(fronts_of((("a", 2, 2, True),), 5), {("a",): ((2, 2),)})
        self.assertEqual(fronts_of((("a", 2, 3, True),), 5), {("a",): ((2, 3), (3, 2))})

    def test_what_no_cut_from_side_to_side_parts(self):
        # Four bars round a hole: they would fit, but there is no first cut.
        bars = (("a", 2, 1, False), ("b", 1, 2, False), ("c", 2, 1, False), ("d", 1, 2, False))
        word, fronts = cut_up(bars, (3, 3), 0)
        self.assertEqual(word, "never")
        self.assertIs(is_never(bars, (3, 3), 0, fronts), True)
        self.assertEqual(cut_up(bars, (4, 3), 0)[0], "made")

    def test_six_blanks(self):
        blanks = tuple([(name, 7 + 3 * k, 31 - 4 * k, k % 2 == 0) for k, name in enumerate("abcdef")])
        fronts = fronts_of(blanks, 1)
        self.assertEqual(len(fronts), 63)
        for size in fronts[tuple("abcdef")]:
            word, tree = cut_up(blanks, size, 1)
            self.assertEqual(word, "made")
            self.assertEqual(size_of_tree(blanks, tree, 1), size)
            word, told = cut_up(blanks, (size[0] - 1, size[1]), 1)
            if word == "never":
                self.assertIs(is_never(blanks, (size[0] - 1, size[1]), 1, told), True)


class Fronts(unittest.TestCase):
    def setUp(self):
        self.fronts = fronts_of(AB, 1)
        self.assertIs(is_never(AB, (5, 2), 1, self.fronts), True)

    def assert_not_taken(self, fronts):
        self.assertIs(is_never(AB, (5, 2), 1, fronts), False, fronts)

    def test_a_plate_that_does(self):
        for plate in ((6, 2), (2, 6), (3, 5), (9, 9)):
            self.assertIs(is_never(AB, plate, 1, self.fronts), False)
        self.assertIs(is_never(AB, (5, 2), 0, fronts_of(AB, 0)), False)
        self.assertIs(is_never(AB, (5, 2), 0, self.fronts), False)

    def test_sizes_left_out(self):
        for lot, sizes in self.fronts.items():
            self.assert_not_taken({key: self.fronts[key] for key in self.fronts if key != lot})
            self.assert_not_taken({**self.fronts, lot: ()})
            for place in range(len(sizes)):
                self.assert_not_taken({**self.fronts, lot: sizes[:place] + sizes[place + 1:]})
                wider, deeper = [(sizes[place][0] + k, sizes[place][1] + 1 - k) for k in (1, 0)]
                for worse in (wider, deeper):
                    self.assert_not_taken({**self.fronts, lot: (*sizes[:place], worse, *sizes[place + 1:])})

    def test_fronts_of_others(self):
        sizes = self.fronts[("a", "b")]
        for other in ((*sizes, (7, 7)), sizes[::-1], (*sizes, sizes[0])):
            self.assertIs(is_never(AB, (5, 2), 1, {**self.fronts, ("a", "b"): other}), True)
        # Less than any tree comes to: still no tree fits, if not even these do.
        self.assertIs(is_never(AB, (5, 2), 1, {**self.fronts, ("a", "b"): ((6, 1), (2, 3))}), True)
        self.assertIs(is_never(AB, (5, 2), 1, {**self.fronts, ("a", "b"): ((1, 1),)}), False)
        # As many units, but no integers.
        for other in (((6, True), (2, 3)), ((6, 1), (True, 3))):
            self.assertIs(is_never(AB, (5, 2), 1, {**self.fronts, ("a", "b"): other}), False)
        self.assertIs(is_never(AB, (5, 2), 1, {**self.fronts, ("a", "b"): ((6, 1), (1, 3))}), True)
        # Less for one alone, so that all that rests on it must be less, too.
        self.assert_not_taken({**self.fronts, ("b",): ((1, 1),)})

    def test_things_that_are_no_fronts(self):
        for thing in (None, 5, (), [], "fronts", {}, list(self.fronts.items()), tuple(self.fronts)):
            self.assert_not_taken(thing)
        for sizes in (None, 5, [*self.fronts[("a",)]], ((3,), (2, 3)), ((3, 2, 1),), ([3, 2], [2, 3]), ((True, 1),), "32",
                      ((3, None), (2, 3)), (3, 2), ((3, "2"),), (None,)):
            self.assert_not_taken({**self.fronts, ("a",): sizes})

    def test_drawn_fronts_changed(self):
        chance = random.Random(4)
        taken = 0
        for _ in range(150):
            blanks, saw = random_blanks(chance, 3, 4), chance.randint(0, 1)
            plate = (chance.randint(1, 9), chance.randint(1, 9))
            fronts = fronts_of(blanks, saw)
            lot = chance.choice(sorted(fronts))
            sizes = [(size[0] + chance.choice((-1, 0, 0, 1)), size[1] + chance.choice((-1, 0, 0, 1)))
                     for size in fronts[lot]]
            if is_never(blanks, plate, saw, {**fronts, lot: tuple(sizes)}):
                taken += 1
                self.assertEqual(cut_up(blanks, plate, saw)[0], "never")
        self.assertGreater(taken, 5)


if __name__ == "__main__":
    unittest.main()
