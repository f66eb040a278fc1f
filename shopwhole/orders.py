"""Least orders of strokes, from home to home, and heights that show that they are least."""

from shopwhole.plain import is_integer, is_tuple_of

MOST_STROKES = 6


def is_cost(thing):
    """Whether a thing is a cost."""
    return thing is None or (is_integer(thing) and thing >= 0)


def is_row_of_costs(thing, many):
    """Whether a thing is a tuple of so many costs."""
    return is_tuple_of(thing, many) and all([is_cost(cost) for cost in thing])


def are_costs(thing):
    """Whether a thing is the costs of at most six strokes."""
    if not is_tuple_of(thing, 3) or not isinstance(thing[0], tuple):
        return False
    first, between, last = thing
    many = len(first)
    if many % 2 != 0 or many > 2 * MOST_STROKES or not is_tuple_of(between, many):
        return False
    return is_row_of_costs(first, many) and is_row_of_costs(last, many) and all(
        [is_row_of_costs(row, many) for row in between])


def strokes_of(costs):
    """How many strokes there are."""
    return len(costs[0]) // 2


def other_end(end):
    """The end at which a stroke is left that is begun at an end."""
    return end + 1 if end % 2 == 0 else end - 1


def step_cost(costs, end, begun):
    """The cost from where one stands, -1 for home, to the end at which a stroke is begun."""
    return costs[0][begun] if end == -1 else costs[1][end][begun]


def home_cost(costs, end):
    """The cost from where one stands to home."""
    return 0 if end == -1 else costs[2][end]


def is_order(costs, order):
    """Whether a thing is an order of all strokes."""
    many = strokes_of(costs)
    if not is_tuple_of(order, many) or not all([is_integer(end) for end in order]):
        return False
    return sorted([end // 2 for end in order]) == list(range(many))


def cost_of(costs, order):
    """The cost of an order, None if it is none of all strokes, or a way lacks."""
    if not is_order(costs, order):
        return None
    total, at = 0, -1
    for begun in order:
        cost = step_cost(costs, at, begun)
        if cost is None:
            return None
        total += cost
        at = other_end(begun)
    cost = home_cost(costs, at)
    return None if cost is None else total + cost


def following(costs, state):
    """The list of (end begun, state, cost) of the states that follow a state by one stroke."""
    done, end = state
    out = []
    for begun in range(len(costs[0])):
        if begun // 2 not in done:
            cost = step_cost(costs, end, begun)
            if cost is not None:
                out.append((begun, (tuple(sorted((*done, begun // 2))), other_end(begun)), cost))
    return out


def best_orders(costs):
    """The dict of all states that can be come to, to (least cost, the order that comes there so)."""
    latest = {((), -1): (0, ())}
    bests = {}
    while latest:
        found = {}
        for state, (cost, order) in latest.items():
            bests[state] = (cost, order)
            for begun, there, step in following(costs, state):
                told = (cost + step, (*order, begun))
                if there not in found or told < found[there]:
                    found[there] = told
        latest = found
    return bests


def is_all_done(costs, state):
    """Whether all strokes are done in a state."""
    return len(state[0]) == strokes_of(costs)


def least_order(costs):
    """The least cost, and an order of this cost; None if there is no order."""
    ends = []
    for state, (cost, order) in best_orders(costs).items():
        step = home_cost(costs, state[1])
        if is_all_done(costs, state) and step is not None:
            ends.append((cost + step, order))
    return min(ends, default=None)


def heights_of(costs):
    """The dict of all states that can be come to, to their least costs."""
    return {state: cost for state, (cost, _) in best_orders(costs).items()}


def is_state(costs, thing):
    """Whether a thing is a state."""
    if not is_tuple_of(thing, 2) or not isinstance(thing[0], tuple) or not is_integer(thing[1]):
        return False
    done, end = thing
    if not all([is_integer(stroke) and 0 <= stroke < strokes_of(costs) for stroke in done]):
        return False
    if list(done) != sorted(set(done)):
        return False
    return end // 2 in done if done else end == -1


def is_least_order(costs, order, heights):
    """Whether an order has a cost, and heights show that none has a less one."""
    cost = cost_of(costs, order)
    if cost is None or not isinstance(heights, dict) or heights.get(((), -1), None) != 0:
        return False
    for state, height in heights.items():
        if not is_state(costs, state) or not is_integer(height):
            return False
    for state, height in heights.items():
        for _, there, step in following(costs, state):
            if there not in heights or heights[there] > height + step:
                return False
        step = home_cost(costs, state[1])
        if is_all_done(costs, state) and step is not None and height + step < cost:
            return False
    return True


def costs_between(ends, home, distance):
    """The costs for ends that are standings, by a function of two standings."""
    first = tuple([distance(home, end) for end in ends])
    between = tuple([tuple([distance(end, other) for other in ends]) for end in ends])
    return first, between, tuple([distance(end, home) for end in ends])
