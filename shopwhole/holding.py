"""Clamps that hold a solid, and the fewest that do."""

from itertools import combinations

from shopwhole.plain import is_integer, is_tuple_of
from shopwhole.sides import SIDES, is_side, step_to
from shopwhole.solids import do_meet, moved, pieces, union_of


def free_steps(solid, stuff):
    """The list of (number, side): the parts of a solid, and the sides to which they go a step and meet no stuff."""
    return [(number, side) for number, part in enumerate(pieces(solid)) for side in SIDES
            if not do_meet(moved(part, step_to(side)), stuff)]


def steps_beside(solid, clamps):
    """The dict of the names of clamps to the free steps beside each alone, as the keys of a dict."""
    return {name: {step: True for step in free_steps(solid, stuff)} for name, stuff in clamps}


def free_beside(steps, beside, names):
    """The list of those steps that are free beside all clamps of some names."""
    return [step for step in steps if all([step in beside[name] for name in names])]


def is_held(solid, clamps, names):
    """Whether no part of a solid goes a step beside the clamps of some names."""
    return free_steps(solid, union_of([stuff for name, stuff in clamps if name in names])) == []


def lots_of(clamps, many):
    """The list of all lots of so many names of clamps, ascending by places."""
    names = [name for name, _ in clamps]
    return list(combinations(names, many))


def fewest_clamps(solid, clamps):
    """(names, papers): the fewest clamps that hold a solid, and a free step for each lot of one fewer, or None."""
    steps, beside = free_steps(solid, ()), steps_beside(solid, clamps)
    papers = ()
    for many in range(len(clamps) + 1):
        found = []
        for names in lots_of(clamps, many):
            free = free_beside(steps, beside, names)
            if not free:
                return names, papers
            found.append((names, *free[0]))
        papers = tuple(found)
    return None


def are_names(clamps, thing):
    """Whether a thing is a tuple of unlike names of clamps."""
    if not isinstance(thing, tuple):
        return False
    known = [name for name, _ in clamps]
    return all([name in known and name not in thing[:place] for place, name in enumerate(thing)])


def is_free_step(free, thing):
    """Whether a thing is (names, number, side) with one of some free steps."""
    return is_tuple_of(thing, 3) and is_integer(thing[1]) and is_side(thing[2]) and thing[1:] in free


def are_fewest(solid, clamps, names, papers):
    """Whether names of clamps hold a solid, and papers tell a free step for each lot of one fewer."""
    if not are_names(clamps, names) or not is_held(solid, clamps, names):
        return False
    lots = lots_of(clamps, len(names) - 1) if names else []
    if not is_tuple_of(papers, len(lots)):
        return False
    steps, beside = free_steps(solid, ()), steps_beside(solid, clamps)
    for lot, paper in zip(lots, papers):
        if not is_free_step(free_beside(steps, beside, lot), paper) or paper[0] != lot:
            return False
    return True
