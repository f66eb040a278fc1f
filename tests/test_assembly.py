"""Promise 37: parts that go out one after the other, and locks."""

import random
import unittest

from cubes import cubes_of, random_solid
from shopwhole.assembly import are_parts, in_the_way, is_locked, is_order, locks_of, put_together, taken_apart
from shopwhole.solids import box, less, moved, union

SIDES = ((0, -1), (0, 1), (1, -1), (1, 1), (2, -1), (2, 1))
CUP = ("cup", less(box((0, 0, 0), (3, 3, 3)), box((1, 1, 1), (2, 2, 3))))
PEG, LONG_PEG = ("peg", box((1, 1, 1), (2, 2, 2))), ("peg", box((1, 1, 1), (2, 2, 4)))
LID = ("lid", box((1, 1, 2), (2, 2, 3)))
CLOSED = (CUP, PEG, LID)
SHELL = (("shell", less(box((0, 0, 0), (3, 3, 3)), PEG[1])), ("core", PEG[1]))
# Two hooks: one holds the other upward, and to one side.
HOOKS = (("one", union(box((0, 0, 0), (3, 2, 1)), box((2, 0, 0), (3, 2, 3)))),
         ("other", union(box((1, 0, 2), (2, 2, 5)), box((1, 0, 4), (4, 2, 5)))))


def own_in_the_way(parts, name, side):
    """Who is met, moving unit cubes step by step."""
    cubes = {told: cubes_of(solid) for told, solid in parts}
    moving, out = cubes[name], set()
    for _ in range(40):
        moving = {tuple(cube[k] + (side[1] if k == side[0] else 0) for k in range(3)) for cube in moving}
        out |= {other for other in cubes if other != name and cubes[other] & moving}
    return [other for other, _ in parts if other in out]


def own_core(parts):
    """The names of those that are left when all have gone out that do."""
    while True:
        stay = [part for part in parts if all(own_in_the_way(parts, part[0], side) for side in SIDES)]
        if len(stay) == len(parts):
            return tuple([name for name, _ in parts])
        gone = [part for part in parts if part not in stay][0]
        parts = tuple([part for part in parts if part != gone])


def random_parts(chance):
    parts, full = [], ()
    for name in "abcdefgh"[:chance.randint(1, 6)]:
        solid = less(random_solid(chance, 0, 5, 4)[0], full)
        if solid != ():
            parts.append((name, solid))
            full = union(full, solid)
    return tuple(parts) if parts else random_parts(chance)


def locked_parts(chance):
    """Parts in a shell, so that a core is likely, and some outside."""
    inner = [(name, less(solid, ())) for name, solid in random_parts(chance)]
    inside = ()
    for _, solid in inner:
        inside = union(inside, solid)
    shell = less(box((-1, -1, -1), (6, 6, 6)), inside)
    if chance.random() < 0.5:
        shell = less(shell, box((chance.randint(0, 4), chance.randint(0, 4), 0), (5, 5, 6)))
    return (*inner[:4], ("shell", shell), ("stone", box((8, 0, 0), (9, 1, 1))))


class Parts(unittest.TestCase):
    def test_parts(self):
        for parts in (CLOSED, SHELL, HOOKS, (CUP,), (("", PEG[1]),),
                      tuple([(f"p{k}", box((k, 0, 0), (k + 1, 1, 1))) for k in range(8)])):
            self.assertIs(are_parts(parts), True)

    def test_things_that_are_no_parts(self):
        for part in (("peg",), ("peg", PEG[1], 1), ["peg", PEG[1]], ("peg", ()), ("peg", None), ("peg", [*PEG[1]]),
                     (5, PEG[1]), (None, PEG[1]), (b"peg", PEG[1]), ("peg", ((0, 1, ()),)), None, 5, "ab", (), {},
                     (("peg",), PEG[1]), ([], PEG[1]), ("peg", "peg")):
            self.assertIs(are_parts((part,)), False, part)
            self.assertIs(are_parts((CUP, part)), False, part)
        for thing in (None, (), [], [*CLOSED], {}, 5, "parts", CUP, (CUP, CUP), (PEG, ("peg", LID[1])), (PEG, LONG_PEG),
                      (("a", LONG_PEG[1]), PEG), (CUP, PEG, ("all", box((0, 0, 0), (1, 1, 1)))),
                      tuple([(f"p{k}", box((k, 0, 0), (k + 1, 1, 1))) for k in range(9)])):
            self.assertIs(are_parts(thing), False, thing)


class Ways(unittest.TestCase):
    def test_against_unit_cubes_moved_step_by_step(self):
        chance = random.Random(1)
        met = 0
        for _ in range(25):
            parts = random_parts(chance)
            self.assertIs(are_parts(parts), True)
            for name, _ in parts:
                for side in SIDES:
                    wanted = own_in_the_way(parts, name, side)
                    self.assertEqual(in_the_way(parts, name, side), wanted)
                    met += len(wanted)
        self.assertGreater(met, 100)

    def test_far_off(self):
        for axis in range(3):
            far = tuple(10 ** 9 if k == axis else 0 for k in range(3))
            parts = (("near", box((0, 0, 0), (1, 1, 1))), ("far", box(far, tuple(number + 1 for number in far))))
            self.assertEqual(in_the_way(parts, "near", (axis, 1)), ["far"])
            self.assertEqual(in_the_way(parts, "far", (axis, -1)), ["near"])
            self.assertEqual(in_the_way(parts, "near", (axis, -1)), [])
            self.assertEqual(in_the_way(parts, "far", (axis, 1)), [])
            back = tuple([(name, moved(solid, tuple(-number for number in far))) for name, solid in parts])
            self.assertEqual(in_the_way(back, "near", (axis, 1)), ["far"])
            self.assertEqual(in_the_way(back, "far", (axis, -1)), ["near"])

    def test_order_of_parts_and_what_is_round_about(self):
        self.assertEqual(in_the_way(CLOSED, "peg", (2, 1)), ["lid"])
        self.assertEqual(in_the_way(CLOSED, "peg", (2, -1)), ["cup"])
        self.assertEqual(in_the_way(CLOSED, "cup", (2, 1)), ["peg", "lid"])
        self.assertEqual(in_the_way(CLOSED[::-1], "cup", (2, 1)), ["lid", "peg"])
        self.assertEqual(in_the_way(CLOSED[:2], "cup", (2, 1)), ["peg"])
        self.assertEqual(in_the_way(CLOSED, "cup", (2, -1)), [])
        self.assertEqual(in_the_way(HOOKS, "one", (2, 1)), ["other"])


class Orders(unittest.TestCase):
    def test_orders_that_are_taken(self):
        for order in ((), (("lid", (2, 1)),), (("lid", (2, 1)), ("peg", (2, 1))),
                      (("lid", (2, 1)), ("peg", (2, 1)), ("cup", (0, -1))), (("lid", (2, 1)), ("cup", (2, -1))),
                      (("lid", (2, 1)), ("cup", (2, -1)), ("peg", (1, 1)))):
            self.assertIs(is_order(CLOSED, order), True, order)
        self.assertIs(is_order(HOOKS, (("one", (1, 1)),)), True)

    def test_orders_that_are_not(self):
        for order in ((("peg", (2, 1)),), (("lid", (2, -1)),), (("lid", (0, 1)),), (("peg", (2, 1)), ("lid", (2, 1))),
                      (("lid", (2, 1)), ("lid", (2, 1))), (("lid", (2, 1)), ("hat", (2, 1))), (("cup", (2, 1)),),
                      [("lid", (2, 1))], (["lid", (2, 1)],), (("lid", [2, 1]),), (("lid", (3, 1)),), (("lid", (2, 0)),),
                      (("lid", (2, 2)),), (("lid", (2, True)),), (("lid", (2,)),), (("lid",),), (("lid", (2, 1), 1),), (None,),
                      None, 5, "lid", ("lid", (2, 1)), (("lid", None),), ((None, (2, 1)),), ((["lid"], (2, 1)),),
                      (("lid", ("2", 1)),), (("lid", (2, "1")),)):
            self.assertIs(is_order(CLOSED, order), False, order)
        for way in (-2, 0, 2):
            self.assertIs(is_order((CUP,), (("cup", (2, way)),)), False)
        self.assertIs(is_order(HOOKS, (("one", (0, -1)),)), False)
        self.assertIs(is_order(HOOKS, (("one", (0, 1)),)), True)
        self.assertIs(is_order(HOOKS, (("one", (False, 1)),)), False)

    def test_drawn_parts(self):
        chance = random.Random(2)
        cores = 0
        for k in range(40):
            parts = random_parts(chance) if k % 2 else locked_parts(chance)
            self.assertIs(are_parts(parts), True)
            order, core = taken_apart(parts)
            self.assertIs(is_order(parts, order), True)
            self.assertEqual(core, own_core(parts))
            self.assertEqual(sorted([name for name, _ in order] + list(core)), sorted([name for name, _ in parts]))
            if core:
                cores += 1
                self.assertIsNone(put_together(parts))
                self.assert_locks(parts, core)
            else:
                self.assertIs(is_order(parts, put_together(parts)[::-1]), True)
                self.assertEqual(len(put_together(parts)), len(parts))
        self.assertGreater(cores, 8)
        self.assertLess(cores, 35)

    def assert_locks(self, parts, core):
        locks = locks_of(parts, core)
        self.assertIsInstance(locks, tuple)
        self.assertEqual([lock[:2] for lock in locks], [(name, side) for name in core for side in SIDES])
        inner = tuple([part for part in parts if part[0] in core])
        for name, side, other in locks:
            self.assertIn(other, own_in_the_way(inner, name, side))
        self.assertIs(is_locked(parts, core, locks), True)

    def test_apart_and_together(self):
        for parts in (CLOSED, HOOKS, (CUP,), (CUP, LONG_PEG)):
            order, core = taken_apart(parts)
            self.assertEqual(core, ())
            self.assertIs(is_order(parts, order), True)
            self.assertEqual(sorted(name for name, _ in order), sorted(name for name, _ in parts))
            self.assertIs(is_order(parts, put_together(parts)[::-1]), True)
        self.assertEqual(taken_apart(SHELL), ((), ("shell", "core")))
        self.assertEqual(taken_apart(SHELL[::-1]), ((), ("core", "shell")))
        self.assertIsNone(put_together(SHELL))
        beside = (("stone", box((5, 0, 0), (6, 1, 1))), *SHELL)
        order, core = taken_apart(beside)
        self.assertEqual(([name for name, _ in order], core), (["stone"], ("shell", "core")))


class Locks(unittest.TestCase):
    def setUp(self):
        self.core = ("shell", "core")
        self.locks = locks_of(SHELL, self.core)

    def test_locks(self):
        self.assertEqual(self.locks, tuple([("shell", side, "core") for side in SIDES]
                                           + [("core", side, "shell") for side in SIDES]))
        self.assertIs(is_locked(SHELL, self.core, self.locks), True)
        self.assertIs(is_locked(SHELL, self.core[::-1], self.locks[6:] + self.locks[:6]), True)
        self.assertIs(is_locked(SHELL, self.core[::-1], self.locks), False)

    def test_changed_locks(self):
        locks = self.locks
        for other in ((), locks[:-1], locks[1:], (*locks, locks[0]), locks[::-1], list(locks), None, 5, "locks",
                      (locks[1], locks[0], *locks[2:]), tuple([list(lock) for lock in locks]), (None,) * 12, ((),) * 12):
            self.assertIs(is_locked(SHELL, self.core, other), False)
        for place, (name, side, other) in enumerate(locks):
            for lock in ((name, side, name), (other, side, name), (name, (side[0], -side[1]), other), (name, side, "hat"),
                         (name, side), (name, side, other, other), (name, list(side), other), (name, side, None),
                         (name, side, [other]), (None, side, other), (name, None, other), None):
                changed = (*locks[:place], lock, *locks[place + 1:])
                self.assertIs(is_locked(SHELL, self.core, changed), False, lock)
        self.assertIs(is_locked(SHELL, self.core, (*locks[:2], ("shell", (True, -1), "core"), *locks[3:])), False)

    def test_cores(self):
        for core in ((), ("shell",), ("shell", "shell"), ("shell", "hat"), list(self.core), ("shell", "core", "hat"), None, 5,
                     ("shell", None), ("shell", ["core"]), "shell", ("shell", "core", "core")):
            self.assertIs(is_locked(SHELL, core, self.locks), False)
        hat = tuple([("hat", side, "shell") for side in SIDES])
        self.assertIs(is_locked(SHELL, ("shell", "hat"), self.locks[:6] + hat), False)
        self.assertIs(is_locked(SHELL, ("core", "hat"), self.locks[6:] + hat), False)
        self.assertIs(is_locked(SHELL, (), ()), False)
        self.assertIs(is_locked(SHELL, ("shell",), self.locks[:6]), False)

    def test_others_of_the_core_alone(self):
        # The stone is in the way of both, but it goes out itself.
        parts = (*HOOKS, ("stone", box((0, 5, 0), (4, 6, 5))))
        locks = tuple([(name, side, (set(in_the_way(parts, name, side)) or {"stone"}).pop())
                       for name in ("one", "other") for side in SIDES])
        self.assertIs(is_locked(parts, ("one", "other"), locks), False)
        wrong = tuple([("one" if k < 6 else "other", side, "other" if k < 6 else "one")
                       for k, side in enumerate(SIDES + SIDES)])
        self.assertIs(is_locked(parts, ("one", "other"), wrong), False)

    def test_a_core_of_three(self):
        # Without the third one, one of them would go out.
        open_shell = ("shell", less(box((0, 0, 0), (3, 3, 4)), box((1, 1, 1), (2, 2, 4))))
        lid = ("lid", union(box((1, 1, 3), (2, 2, 5)), box((-1, -1, 4), (4, 4, 5))))
        sides = ("ring", less(box((-1, -1, -1), (4, 4, 6)), box((0, 0, 0), (3, 3, 4))))
        ring = ("ring", less(sides[1], lid[1]))
        parts = (open_shell, ("peg", box((1, 1, 1), (2, 2, 2))), lid, ring)
        self.assertIs(are_parts(parts), True)
        core = taken_apart(parts)[1]
        self.assertEqual(core, own_core(parts))
        self.assertEqual(len(core), 4)
        self.assertIs(is_locked(parts, core, locks_of(parts, core)), True)


if __name__ == "__main__":
    unittest.main()
