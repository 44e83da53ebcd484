"""Boards: pieces, each lit as its table tells by its cut, and the ties that are its outputs."""

from gatefold.bits import full_column, input_columns
from gatefold.errors import NoBoard
from gatefold.gates import chosen_lit
from gatefold.lighting import lit_tie
from gatefold.wholes import is_between, is_rising, is_whole

MOST_INPUTS = 10
GREATEST_KNOT = 999
LONGEST_CUT = 6


def is_cut_of(cut, lowers):
    if len(cut) < 1 or len(cut) > LONGEST_CUT:
        return False
    # What is no whole number may be such that it can be neither sought nor put in order.
    if not all([is_whole(lower) and lower in lowers for lower in cut]):
        return False
    return is_rising(cut)


def need_pieces(many, pieces):
    # Tells what ties may be of, knot 0 aside: the inputs and the knots of the pieces.
    lowers = dict([(knot, True) for knot in range(1, many + 1)])
    top = many
    for knot, cut, table in pieces:
        if not is_between(knot, top + 1, GREATEST_KNOT) or not is_cut_of(cut, lowers):
            raise NoBoard("a piece's knot does not rise, or its cut is none")
        if not is_between(table, 0, full_column(len(cut))):
            raise NoBoard("a piece's table is none of its cut")
        lowers[knot] = True
        top = knot
    return lowers


def need_ties(ties, lowers):
    if len(ties) < 1:
        raise NoBoard("a board has one output or more")
    for tie in ties:
        if not is_whole(tie) or (tie // 2 != 0 and tie // 2 not in lowers):
            raise NoBoard("an output is no tie of this board")


def piece_column(table, columns, every):
    # At first there is one column for each bit of the table. Two neighbours differ in the first
    # knot of the cut alone: it chooses between them, and the next knot between what is left.
    lit = [every if (table >> place) & 1 == 1 else 0 for place in range(1 << len(columns))]
    for column in columns:
        lit = [chosen_lit((column, upper, lower), every) for lower, upper in zip(lit[0::2], lit[1::2])]
    return lit[0]


class Board:
    def __init__(self, many, pieces, ties):
        if not is_between(many, 1, MOST_INPUTS):
            raise NoBoard("not one to ten inputs")
        need_ties(ties, need_pieces(many, pieces))
        self.many = many
        # Copies, the cuts too: whoever made the board may change those lists behind.
        self.kept_pieces = tuple([(knot, tuple(cut), table) for knot, cut, table in pieces])
        self.kept_ties = tuple(ties)

    def pieces(self):
        return [(knot, list(cut), table) for knot, cut, table in self.kept_pieces]

    def ties(self):
        return list(self.kept_ties)

    def columns(self):
        every = full_column(self.many)
        lit = dict(enumerate([0] + input_columns(self.many)))
        for knot, cut, table in self.kept_pieces:
            lit[knot] = piece_column(table, [lit[lower] for lower in cut], every)
        return [lit_tie(lit, tie, every) for tie in self.kept_ties]

    def depths(self):
        deep = dict([(knot, 0) for knot in range(self.many + 1)])
        for knot, cut, table in self.kept_pieces:
            deep[knot] = 1 + max([deep[lower] for lower in cut])
        return [deep[tie // 2] for tie in self.kept_ties]
