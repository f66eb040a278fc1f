"""Promise 12: least orders."""

import itertools
import random
import unittest

from shopwhole.orders import are_costs, cost_of, costs_between, heights_of, is_least_order, least_order

NONE = ((), (), ())
LINE = costs_between([1, 4, 6, 5], 0, lambda one, other: abs(one - other))


def random_costs(chance, strokes, lacking):
    def cost():
        return None if chance.random() < lacking else chance.randint(0, 9)
    many = 2 * strokes
    return (tuple(cost() for _ in range(many)), tuple(tuple(cost() for _ in range(many)) for _ in range(many)),
            tuple(cost() for _ in range(many)))


def all_orders(strokes):
    for row in itertools.permutations(range(strokes)):
        for ends in itertools.product((0, 1), repeat=strokes):
            yield tuple(2 * stroke + end for stroke, end in zip(row, ends))


def own_cost(costs, order):
    first, between, last = costs
    if not order:
        return 0
    steps = [first[order[0]], *[between[one ^ 1][other] for one, other in zip(order, order[1:])], last[order[-1] ^ 1]]
    return None if None in steps else sum(steps)


class Costs(unittest.TestCase):
    def test_things_that_are_costs(self):
        chance = random.Random(1)
        for strokes in range(7):
            self.assertIs(are_costs(random_costs(chance, strokes, 0.2)), True)
        self.assertIs(are_costs(NONE), True)
        self.assertIs(are_costs(((None, None), ((None,) * 2,) * 2, (None, 10 ** 12))), True)

    def test_things_that_are_no_costs(self):
        good = ((1, 2), ((0, 1), (1, 0)), (3, 4))
        self.assertIs(are_costs(good), True)
        for thing in (None, 5, (), [], good[:2], (*good, 1), list(good), ([1, 2], *good[1:]), ((1,), ((0,),), (3,)),
                      ((1, -1), *good[1:]), ((1, True), *good[1:]), ((1, "2"), *good[1:]), ((1, 2, 3), *good[1:]),
                      (good[0], ((0, 1), [1, 0]), good[2]), (good[0], [(0, 1), (1, 0)], good[2]),
                      (good[0], ((0, 1), (1, 0, 2)), good[2]), (good[0], ((0, 1),), good[2]),
                      (good[0], ((0, -1), (1, 0)), good[2]), (good[0], ((0, False), (1, 0)), good[2]),
                      (good[0], good[1], (3,)), (good[0], good[1], (3, -4)), (good[0], good[1], [3, 4]),
                      (good[0], good[1], None), (None, good[1], good[2]), (good[0], None, good[2]),
                      random_costs(random.Random(2), 7, 0), ((), (), (1,)), ((), ((),), ())):
            self.assertIs(are_costs(thing), False, thing)

    def test_costs_between(self):
        ends, home = [(0, 0), (2, 5), (7, 1), (3, 3)], (9, 9)
        def distance(one, other):
            return None if one == (7, 1) else 10 * one[0] + other[1]
        first, between, last = costs_between(ends, home, distance)
        self.assertEqual(first, (90, 95, 91, 93))
        self.assertEqual(between, ((0, 5, 1, 3), (20, 25, 21, 23), (None,) * 4, (30, 35, 31, 33)))
        self.assertEqual(last, (9, 29, None, 39))
        self.assertEqual(costs_between([], home, distance), NONE)
        self.assertEqual(costs_between(tuple(ends), home, distance), (first, between, last))


class Orders(unittest.TestCase):
    def test_cost_of_orders(self):
        self.assertEqual([cost_of(LINE, order) for order in ((0, 2), (0, 3), (2, 0), (1, 3))], [8, 8, 14, 14])
        chance = random.Random(3)
        for _ in range(30):
            costs = random_costs(chance, 3, 0.15)
            for order in all_orders(3):
                self.assertEqual(cost_of(costs, order), own_cost(costs, order))

    def test_things_that_are_no_orders(self):
        for thing in (None, 5, (), (0,), (0, 0), (0, 1), (0, 2, 3), (0, 4), (-1, 0), [0, 2], (0, True), ("0", "2"),
                      (0, None), "02", (2, 3), {0: 1, 2: 3}):
            self.assertIsNone(cost_of(LINE, thing), thing)
        self.assertEqual(cost_of(NONE, ()), 0)
        self.assertIsNone(cost_of(NONE, (0,)))
        self.assertIsNone(cost_of(NONE, []))

    def test_least_against_all_orders(self):
        chance = random.Random(4)
        none = 0
        for _ in range(120):
            strokes = chance.randint(0, 4)
            costs = random_costs(chance, strokes, chance.choice((0, 0.2, 0.6)))
            wanted = [own_cost(costs, order) for order in all_orders(strokes)]
            wanted = min([cost for cost in wanted if cost is not None], default=None)
            found = least_order(costs)
            if wanted is None:
                none += 1
                self.assertIsNone(found)
            else:
                self.assertEqual(found[0], wanted)
                self.assertEqual(cost_of(costs, found[1]), wanted)
        self.assertGreater(none, 5)

    def test_six_strokes(self):
        costs = random_costs(random.Random(5), 6, 0.1)
        cost, order = least_order(costs)
        self.assertEqual(cost_of(costs, order), cost)
        self.assertIs(is_least_order(costs, order, heights_of(costs)), True)

    def test_no_stroke(self):
        self.assertEqual(least_order(NONE), (0, ()))
        self.assertEqual(heights_of(NONE), {((), -1): 0})
        self.assertIs(is_least_order(NONE, (), {((), -1): 0}), True)
        self.assertIs(is_least_order(NONE, (), {}), False)
        self.assertIs(is_least_order(NONE, (), {((), -1): 1}), False)


class Heights(unittest.TestCase):
    def test_all_states_to_their_least_costs(self):
        chance = random.Random(6)
        for _ in range(40):
            costs = random_costs(chance, 3, 0.25)
            wanted = {((), -1): 0}
            for many in (1, 2, 3):
                for strokes in itertools.permutations(range(3), many):
                    for ends in itertools.product((0, 1), repeat=many):
                        order = [2 * stroke + end for stroke, end in zip(strokes, ends)]
                        steps = [costs[0][order[0]],
                                 *[costs[1][one ^ 1][other] for one, other in zip(order, order[1:])]]
                        if None not in steps:
                            state = (tuple(sorted(strokes)), order[-1] ^ 1)
                            wanted[state] = min(sum(steps), wanted.get(state, 10 ** 9))
            self.assertEqual(heights_of(costs), wanted)

    def test_taken_for_least_orders_alone(self):
        chance = random.Random(7)
        for _ in range(30):
            costs = random_costs(chance, 3, 0.1)
            found, heights = least_order(costs), heights_of(costs)
            ahead = dict(heights)
            for order in all_orders(3):
                cost = cost_of(costs, order)
                is_least = cost is not None and cost == found[0]
                self.assertIs(is_least_order(costs, order, heights), is_least)
            self.assertEqual(heights, ahead)

    def test_changed_ones_are_not_taken(self):
        chance = random.Random(8)
        for _ in range(30):
            costs = random_costs(chance, 3, 0)
            order, heights = least_order(costs)[1], heights_of(costs)
            state = chance.choice(sorted(heights))
            self.assertIs(is_least_order(costs, order, {**heights, state: heights[state] + 1}), False)
            self.assertIs(is_least_order(costs, order, {key: heights[key] for key in heights if key != state}), False)
            self.assertIs(is_least_order(costs, order, {**heights, ((), -1): -1}), False)
            lowest = {key: 0 for key in heights}
            self.assertIs(is_least_order(costs, order, lowest),
                          all(costs[2][end] >= cost_of(costs, order) for end in range(6)))
            self.assertIs(is_least_order(costs, [*order], heights), False)
            self.assertIs(is_least_order(costs, order[:2], heights), False)

    def test_lower_heights_that_still_show_it_are_taken(self):
        # By all orders that end at 4 the cost is 14 at least: with less it is still no less than 8.
        heights = heights_of(LINE)
        state = ((0, 1), 1)
        self.assertEqual((heights[state], LINE[2][1]), (10, 4))
        self.assertIs(is_least_order(LINE, (0, 2), {**heights, state: 4}), True)
        self.assertIs(is_least_order(LINE, (0, 2), {**heights, state: 3}), False)

    def test_things_that_are_no_heights(self):
        heights = heights_of(LINE)
        for thing in (None, 5, [], list(heights.items()), {**heights, ((), -1): False}, {**heights, ((), 0): 0},
                      {**heights, ((0,), 2): 9}, {**heights, ((1, 0), 2): 9}, {**heights, ((0, 0), 0): 9},
                      {**heights, ((2,), 4): 9}, {**heights, ((0,), -1): 9}, {**heights, 5: 9}, {**heights, (0, 0): 9},
                      {**heights, ((0,), 0, 0): 9}, {**heights, ((0,), 0): "5"}, {**heights, ((0,), 0): None},
                      {**heights, ((False,), 0): 5}, {**heights, ((0,), "0"): 9}, {**heights, ((0,), None): 9},
                      {**heights, (("0",), 0): 9}, {**heights, ((None,), 0): 9}, {**heights, ("0", 0): 9}):
            self.assertIs(is_least_order(LINE, (0, 2), thing), False, thing)

    def test_ways_that_lack(self):
        costs = ((None, 3), ((0, 0), (0, 0)), (None, 2))
        self.assertIsNone(least_order(costs))
        self.assertEqual(heights_of(costs), {((), -1): 0, ((0,), 0): 3})
        self.assertIs(is_least_order(costs, (1,), heights_of(costs)), False)
        self.assertIs(is_least_order(costs, (0,), heights_of(costs)), False)
        costs = ((None, 3), ((0, 0), (0, 0)), (4, None))
        self.assertEqual(least_order(costs), (7, (1,)))
        self.assertIs(is_least_order(costs, (1,), heights_of(costs)), True)


if __name__ == "__main__":
    unittest.main()
