"""Folds: knots that are lit where two ties are, each of them there but once."""

from gatefold.errors import NoKnot, NoTie

NEVER = 0
ALWAYS = 1


def turned(tie):
    return tie ^ 1


class Fold:
    def __init__(self, many):
        self.many = many
        self.pairs = []
        # The same and-knots by their ties, so that none is added a second time.
        self.knots = {}

    def total(self):
        return 1 + self.many + len(self.pairs)

    def has_tie(self, tie):
        return 0 <= tie < 2 * self.total()

    def pair(self, knot):
        if knot < 0 or knot >= self.total():
            raise NoKnot("no knot of this fold")
        if knot <= self.many:
            return None
        return self.pairs[knot - self.many - 1]

    def both(self, one, other):
        if not self.has_tie(one) or not self.has_tie(other):
            raise NoTie("no tie of this fold")
        first = min(one, other)
        second = max(one, other)
        if first == NEVER:
            return NEVER
        if first == ALWAYS or first == second:
            return second
        if first == turned(second):
            return NEVER
        return 2 * self.and_knot((first, second))

    def and_knot(self, ties):
        if ties not in self.knots:
            self.knots[ties] = self.total()
            self.pairs.append(ties)
        return self.knots[ties]
