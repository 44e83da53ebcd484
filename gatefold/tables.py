"""The tables of knots by their cuts."""

from gatefold.bits import full_column, input_columns
from gatefold.cones import is_cut, reached
from gatefold.errors import NoCut
from gatefold.lighting import lit_pair


def table(fold, knot, cut):
    if not is_cut(fold, knot, cut):
        raise NoCut("no cut of this knot")
    # A table is a column, too: one of as many inputs as the cut has knots.
    every = full_column(len(cut))
    lit = dict(zip(cut, input_columns(len(cut))))
    between = [lower for lower in reached(fold, [knot], lit) if lower not in lit]
    for lower in between:
        lit[lower] = lit_pair(lit, fold.pair(lower), every)
    return lit[knot]
