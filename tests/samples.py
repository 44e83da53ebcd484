"""What several test files need: nets and folds made by a fixed seed, and a second way to tell what they tell."""

import itertools
import random

from gatefold.errors import FoldError
from gatefold.folds import Fold

# A whole number of as many figures as are promised.
HUGE = 10**399

# Things that are no whole numbers: some of them can be neither held against a number nor sought in a dict.
NO_WHOLES = [True, False, None, "", "3", "two", 2.0, 3.5, float("nan"), [], [3], (), (2,), {}, {4: True}, 3j, b"4", int]

WRONG_SIZES = [1, 0, -1, -2, -6, 7, 8, 100, HUGE, -HUGE] + NO_WHOLES

KEPT_WORDS = ["in", "out", "is", "and", "or", "either", "not", "choose", "most", "yes", "no"]

# Signs that are neither a blank nor a small letter: many of them are blanks or small letters to Python.
WRONG_SIGNS = list("AMZ059-_.,;'\"!`{}|~@[/:#\t\n\r\0\x0b\x0c\x1c\x1d\x1e\x1f\x7f\x85\xa0") + [
    "\u1680",
    "\u2003",
    "\u2028",
    "\u2029",
    "\u3000",
    "\u200b",
    "\ufeff",
    "\u00e9",
    "\u00df",
    "\u00aa",
    "\u0131",
    "\u03b1",
    "\u0430",
    "\uff41",
    "\u0301",
    "\ud800",
    "\U0001d41a",
]

# For each word of a gate, the numbers of parts that it may have.
COUNTS = {
    "and": [2, 3, 4, 5, 6],
    "or": [2, 3, 4, 5, 6],
    "either": [2, 3, 4, 5, 6],
    "not": [1],
    "choose": [3],
    "most": [3],
    "yes": [0],
    "no": [0],
}


def refusal(ask, *handed):
    """The class of the refusal, None where nothing is refused."""
    try:
        ask(*handed)
    except FoldError as taken:
        return taken.__class__
    return None


def gate_truth(word, truths):
    """Where a gate is lit, told apart from the program."""
    lit = len([truth for truth in truths if truth])
    if word == "and":
        return lit == len(truths)
    if word == "or":
        return lit != 0
    if word == "either":
        return lit in (1, 3, 5)
    if word == "not":
        return lit == 0
    if word == "choose":
        return tuple(truths) in {
            (True, True, True),
            (True, True, False),
            (False, True, True),
            (False, False, True),
        }
    if word == "most":
        return lit in (2, 3)
    return {"yes": True, "no": False}[word]


def net_truths(inputs, gates, outputs, truths):
    """What a net tells, told apart from the program: each name asks for its parts."""
    lit = dict(zip(inputs, truths, strict=True))
    by_name = {name: (word, parts) for name, word, parts in gates}

    def truth(name):
        if name not in lit:
            word, parts = by_name[name]
            lit[name] = gate_truth(word, [truth(part) for part in parts])
        return lit[name]

    return [truth(name) for name in outputs]


def lighting_truths(lighting, many):
    """The list of truths of a lighting: its figures to the base two, the last one first."""
    return [figure == "1" for figure in reversed(f"{lighting:0{many}b}")]


def fresh_name(number):
    letters = "abcdefghijklmnopqrstuvwxyz"
    return "n" + letters[number // 26] + letters[number % 26]


def made_net(many, gate_count, output_count, seed):
    """The inputs, gates and outputs of a net, the same for the same seed."""
    chance = random.Random(seed)
    inputs = [fresh_name(number) for number in range(many)]
    told = list(inputs)
    gates = []
    for number in range(many, many + gate_count):
        word = chance.choice(sorted(COUNTS))
        parts = [chance.choice(told) for part in range(chance.choice(COUNTS[word]))]
        gates.append((fresh_name(number), word, parts))
        told.append(fresh_name(number))
    # The later gates are the deeper ones: without them much of the net would go unseen.
    outputs = [told[-1]] + [chance.choice(told) for output in range(output_count - 1)]
    return inputs, gates, outputs


def fold_pairs(fold):
    """The pairs of all and-knots of a fold, in their order."""
    return [fold.pair(knot) for knot in range(fold.many + 1, fold.total())]


def made_fold(many, knot_count, seed, reach=None):
    """A fold of so many knots, the same for the same seed; `reach` tells how far down ties go, at the most."""
    chance = random.Random(seed)
    fold = Fold(many)
    while fold.total() < knot_count:
        top = 2 * fold.total() - 1
        low = 0 if reach is None else max(0, top - 2 * reach)
        fold.both(chance.randint(low, top), chance.randint(low, top))
    return fold


def braided_fold(many, knot_count):
    """A fold in which each and-knot has the two knots ahead of it: the ways down grow beyond all count."""
    fold = Fold(many)
    while fold.total() < knot_count:
        top = fold.total() - 1
        fold.both(2 * top + top // 3 % 2, 2 * (top - 1) + top % 2)
    return fold


def long_row(many, count):
    """A fold in which each and-knot has the one ahead of it, turned and not by turns."""
    fold = Fold(many)
    for number in range(count - fold.total()):
        fold.both(2 * fold.total() - 2 + number % 2, 2 + number % 3)
    return fold


def round_row(many, count):
    """A fold in which each and-knot has the one ahead of it and one of the inputs, these in turn."""
    fold = Fold(many)
    while fold.total() < count:
        top = fold.total() - 1
        fold.both(2 * top + top % 2, 2 * (1 + top % (many - 1)))
    return fold


def wide_braid(many, count):
    """A fold in which each and-knot has the one ahead of it and one of those `many` ahead."""
    fold = Fold(many)
    while fold.total() < count:
        top = fold.total() - 1
        fold.both(2 * top + top % 2, 2 * (top - many + 1) + top // 2 % 2)
    return fold


def lower_knots(fold, knot):
    """The knots of the ties of an and-knot; none of another knot."""
    pair = fold.pair(knot)
    return [] if pair is None else [tie // 2 for tie in pair]


def cone_sets(fold):
    """The cones of all knots, told apart from the program: from the inputs up."""
    cones = []
    for knot in range(fold.total()):
        cones.append({knot}.union(*[cones[lower] for lower in lower_knots(fold, knot)]))
    return cones


def cut_truth(fold, knot, some, cones):
    """Whether a list is a cut, told apart from the program: from the inputs up, what is stopped below each knot."""
    if not fold.many < knot < fold.total() or some != sorted(set(some)):
        return False
    if not set(some) <= cones[knot] - {knot}:
        return False
    stopped = []
    for lower in range(knot + 1):
        below = [stopped[other] for other in lower_knots(fold, lower)]
        stopped.append(lower in some or (below != [] and all(below)))
    return stopped[knot]


def small_cuts(fold, knot, size, cones):
    """All cuts of at most so many knots."""
    inner = sorted(cones[knot] - {knot})
    lists = [list(some) for count in range(size + 1) for some in itertools.combinations(inner, count)]
    return [some for some in lists if cut_truth(fold, knot, some, cones)]


def made_cut(fold, knot, chance, size):
    """A cut of at most so many knots, by going down here and there from the knots of the two ties."""
    cut = sorted(lower_knots(fold, knot))
    for step in range(chance.randint(0, 30)):
        lower = chance.choice(cut)
        below = lower_knots(fold, lower)
        other = sorted({*cut, *below} - {lower})
        if below and len(other) <= size:
            cut = other
    return cut


def told_table(fold, knot, cut):
    """The table, told apart from the program: bit by bit, all knots that can be told from the cut up."""
    signs = ""
    for number in range(2 ** len(cut)):
        truths = {lower: number // 2**place % 2 == 1 for place, lower in enumerate(cut)}
        for lower in range(max(fold.many, cut[0]) + 1, knot + 1):
            if lower not in truths and all(other in truths for other in lower_knots(fold, lower)):
                truths[lower] = all(truths[tie // 2] != (tie % 2 == 1) for tie in fold.pair(lower))
        signs = "01"[truths[knot]] + signs
    return int(signs, 2)


def merged_labels(fold, size):
    """The labels by all cuts that are had by joining those of the knots of the two ties, knot by knot."""
    cuts = [{frozenset([knot])} for knot in range(fold.many + 1)]
    labels = [0] * (fold.many + 1)
    for knot in range(fold.many + 1, fold.total()):
        one, other = lower_knots(fold, knot)
        joined = {first | second for first in cuts[one] for second in cuts[other] if len(first | second) <= size}
        labels.append(1 + min(max(labels[lower] for lower in cut) for cut in joined))
        cuts.append(joined | {frozenset([knot])})
    return labels


def tie_truths(fold, lighting):
    """The truths of all ties of a fold at a lighting, told apart from the program."""
    truths = [False] + [f"{lighting:b}".zfill(fold.many)[-number] == "1" for number in range(1, fold.many + 1)]
    for one, other in fold_pairs(fold):
        one_lit = truths[one // 2] if one % 2 == 0 else not truths[one // 2]
        other_lit = truths[other // 2] if other % 2 == 0 else not truths[other // 2]
        truths.append(one_lit and other_lit)
    return [truth != bool(turn) for truth in truths for turn in (0, 1)]


def made_board(many, piece_count, output_count, seed, reach=None):
    """What a board is made of, the same for the same seed; `reach` tells how far back cuts go, at the most."""
    chance = random.Random(seed)
    lowers = list(range(1, many + 1))
    pieces = []
    for number in range(piece_count):
        # Some numbers are left out, as few as leave room for all pieces.
        knot = max(lowers[-1], many) + chance.choice([1, 1, 1, 1, 2])
        near = lowers if reach is None else lowers[-reach:]
        cut = sorted(chance.sample(near, chance.randint(1, min(6, len(near)))))
        pieces.append((knot, cut, chance.getrandbits(2 ** len(cut))))
        lowers.append(knot)
    ties = [2 * lowers[-1]]
    while len(ties) < output_count:
        ties.append(2 * chance.choice([0, *lowers]) + chance.randint(0, 1))
    return many, pieces, ties


def board_truths(many, pieces, ties, lighting):
    """The truths of a board's outputs at a lighting, told apart from the program."""
    truths = dict(enumerate([False, *lighting_truths(lighting, many)]))
    for knot, cut, table in pieces:
        number = int("".join("01"[truths[lower]] for lower in reversed(cut)), 2)
        truths[knot] = f"{table:064b}"[-1 - number] == "1"
    return [truths[tie // 2] != (tie % 2 == 1) for tie in ties]


def board_columns(many, pieces, ties):
    """The columns of a board's outputs, told apart from the program."""
    rows = [board_truths(many, pieces, ties, lighting) for lighting in range(2**many)]
    return [int("".join("01"[row[place]] for row in reversed(rows)), 2) for place in range(len(ties))]


def board_depths(many, pieces, ties):
    """The depths of a board, told apart from the program: round by round, all pieces that have their cut ahead."""
    depths = {knot: 0 for knot in range(many + 1)}
    waiting = {knot: cut for knot, cut, table in pieces}
    for depth in itertools.count(1):
        ready = [knot for knot, cut in waiting.items() if all(lower in depths for lower in cut)]
        for knot in ready:
            depths[knot] = depth
            waiting.pop(knot)
        if not ready:
            return [depths[tie // 2] for tie in ties]
