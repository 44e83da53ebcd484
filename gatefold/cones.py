"""The cones of knots, and what is a cut of them."""

from gatefold.errors import NoKnot
from gatefold.wholes import is_rising


def reached(fold, knots, stops):
    # All that one comes to who goes down from these knots, and no further from a knot of `stops`.
    seen = [False] * fold.total()
    for knot in knots:
        seen[knot] = True
    # The knots of a knot's ties lie below it: from the top down, all that lead to a knot are
    # looked at ahead of it, and each knot but once.
    for knot in range(fold.total() - 1, fold.many, -1):
        if seen[knot] and knot not in stops:
            for tie in fold.pair(knot):
                seen[tie // 2] = True
    return [knot for knot in range(fold.total()) if seen[knot]]


def cone(fold, knot):
    if knot < 0 or knot >= fold.total():
        raise NoKnot("no knot of this fold")
    return reached(fold, [knot], {})


def is_cut(fold, knot, some):
    if knot <= fold.many or knot >= fold.total() or knot in some or not is_rising(some):
        return False
    within = dict([(lower, True) for lower in cone(fold, knot)])
    if not all([lower in within for lower in some]):
        return False
    stops = dict([(lower, True) for lower in some])
    return all([lower > fold.many or lower in stops for lower in reached(fold, [knot], stops)])
