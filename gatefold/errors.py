"""The refusals: one class for each, all of them under FoldError alone."""


class FoldError(ValueError):
    pass


class NoLine(FoldError):
    pass


class NoName(FoldError):
    pass


class NoTie(FoldError):
    pass


class NoKnot(FoldError):
    pass


class NoCut(FoldError):
    pass


class NoGoal(FoldError):
    pass


class NoSize(FoldError):
    pass


class NoBoard(FoldError):
    pass


class NoText(FoldError):
    pass


class NoMatch(FoldError):
    pass
