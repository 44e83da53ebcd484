"""Folds laid as boards."""

from gatefold.boards import Board
from gatefold.labels import Labels
from gatefold.tables import table


def laid(fold, ties, size):
    labels = Labels(fold, size)
    needed = dict([(tie // 2, True) for tie in ties])
    pieces = []
    # The knots of a cut lie below its knot: from the top down, whether a knot is needed is known
    # when it is come to.
    for knot in range(fold.total() - 1, fold.many, -1):
        if knot in needed:
            cut = labels.cut(knot)
            pieces.append((knot, cut, table(fold, knot, cut)))
            needed.update(dict([(lower, True) for lower in cut]))
    pieces.reverse()
    return Board(fold.many, pieces, ties)
