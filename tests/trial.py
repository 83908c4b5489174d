"""Boxes, plans and papers by trial: all worlds are listed, and everything is told from the list."""

import functools
import itertools


def worlds_of(box):
    lows, highs, total = box
    tuples = itertools.product(*[range(low, high + 1) for low, high in zip(lows, highs)])
    return [world for world in tuples if total is None or sum(world) == total]


def tight_of(worlds, total):
    """The tight box of a list of worlds that is not empty."""
    places = list(zip(*worlds))
    return (tuple(min(place) for place in places), tuple(max(place) for place in places), total)


def looks_of(worlds):
    """The looks that may be asked where these are the worlds."""
    lows, highs, _ = tight_of(worlds, None)
    return [(k, many) for k in range(len(lows)) for many in range(lows[k] + 1, highs[k] + 1)]


def split(worlds, look):
    """The worlds behind yes and those behind no."""
    k, many = look
    return (
        [world for world in worlds if world[k] >= many],
        [world for world in worlds if world[k] < many],
    )


def boxes(places, highest):
    """All (lows, highs) of so many places with no high above the highest."""
    spans = [(low, high) for high in range(highest + 1) for low in range(high + 1)]
    for chosen in itertools.product(spans, repeat=places):
        yield (tuple(low for low, _ in chosen), tuple(high for _, high in chosen))


def boxes_with_worlds(places, highest):
    """All boxes of so many places, with each total that has a world, and without one."""
    for lows, highs in boxes(places, highest):
        for total in [None, *range(sum(lows), sum(highs) + 1)]:
            yield (lows, highs, total)


def all_plans(worlds):
    """Every plan there is for these worlds."""
    if len(worlds) == 1:
        yield ()
        return
    for k, many in looks_of(worlds):
        yes, no = split(worlds, (k, many))
        for plan in all_plans(yes):
            for other in all_plans(no):
                yield (k, many, plan, other)


def depth_of_plan(plan):
    if plan == ():
        return 0
    return 1 + max(depth_of_plan(plan[2]), depth_of_plan(plan[3]))


def least_depth(worlds):
    return _least_depth(frozenset(worlds))


@functools.lru_cache(maxsize=None)
def _least_depth(worlds):
    if len(worlds) == 1:
        return 0
    parts = [split(worlds, look) for look in looks_of(worlds)]
    return 1 + min(max(least_depth(yes), least_depth(no)) for yes, no in parts)


def is_plan_for(plan, worlds):
    """Whether the plan is one for the box with these worlds."""
    if len(worlds) == 1 or plan == ():
        return len(worlds) == 1 and plan == ()
    k, many, yes, no = plan
    if type(plan) is not tuple or (k, many) not in looks_of(worlds):
        return False
    behind_yes, behind_no = split(worlds, (k, many))
    return is_plan_for(yes, behind_yes) and is_plan_for(no, behind_no)


def shows_by_trial(box, depth, rows):
    """Point [15], word by word."""
    total = box[2]
    stand = [(lows, highs, claim) for lows, highs, claim in rows]
    for lows, highs, claim in rows:
        if not 1 <= len(lows) == len(highs) <= 3:
            return False
        if not all(0 <= low <= high <= 7 for low, high in zip(lows, highs)):
            return False
        worlds = worlds_of((lows, highs, total))
        if not worlds:
            return False
        if claim > 0:
            if tight_of(worlds, total) != (lows, highs, total) or len(worlds) == 1:
                return False
            if not all(_leads_on(split(worlds, look), claim - 1, stand) for look in looks_of(worlds)):
                return False
    return _stands(worlds_of(box), depth, stand)


def _leads_on(parts, claim, stand):
    return any(_stands(worlds, claim, stand) for worlds in parts)


def _stands(worlds, claim, stand):
    lows, highs, _ = tight_of(worlds, None)
    return claim == 0 or any(row[:2] == (lows, highs) and row[2] >= claim for row in stand)
