"""Where the ties and the knots of a fold are lit."""

from gatefold.bits import full_column, input_columns
from gatefold.errors import NoTie


def lit_knots(fold, top, inputs, every):
    # `inputs` are columns: of all lightings, or of one alone. The knots above `top` are left out.
    lit = [0] + inputs
    for knot in range(fold.many + 1, top + 1):
        lit.append(lit_pair(lit, fold.pair(knot), every))
    return lit


def lit_pair(lit, pair, every):
    return lit_tie(lit, pair[0], every) & lit_tie(lit, pair[1], every)


def lit_tie(lit, tie, every):
    return lit[tie // 2] ^ every if tie % 2 == 1 else lit[tie // 2]


def need_tie(fold, tie):
    if not fold.has_tie(tie):
        raise NoTie("no tie of this fold")


def is_lit(fold, tie, lighting):
    need_tie(fold, tie)
    every = full_column(0)
    inputs = [(lighting >> place) & 1 for place in range(fold.many)]
    return lit_tie(lit_knots(fold, tie // 2, inputs, every), tie, every) == 1


def column(fold, tie):
    need_tie(fold, tie)
    every = full_column(fold.many)
    return lit_tie(lit_knots(fold, tie // 2, input_columns(fold.many), every), tie, every)


def knot_columns(fold):
    return lit_knots(fold, fold.total() - 1, input_columns(fold.many), full_column(fold.many))


def first_unlike(columns, others):
    unlike = 0
    for one, other in zip(columns, others):
        unlike = unlike | (one ^ other)
    if unlike == 0:
        return None
    # Of a number and its negative only the least bit that is 1 stands in both.
    return (unlike & -unlike).bit_length() - 1
