"""Gates and nets as knots of a fold, and folds swept of what nobody needs."""

from gatefold.cones import reached
from gatefold.folds import ALWAYS, NEVER, Fold, turned


def and_tie(fold, ties):
    told = ties[0]
    for tie in ties[1:]:
        told = fold.both(told, tie)
    return told


def or_tie(fold, ties):
    return turned(and_tie(fold, [turned(tie) for tie in ties]))


def either_of_two(fold, one, other):
    first = fold.both(one, turned(other))
    second = fold.both(turned(one), other)
    return or_tie(fold, [first, second])


def either_tie(fold, ties):
    told = ties[0]
    for tie in ties[1:]:
        told = either_of_two(fold, told, tie)
    return told


def choose_tie(fold, ties):
    first = fold.both(ties[0], ties[1])
    second = fold.both(turned(ties[0]), ties[2])
    return or_tie(fold, [first, second])


def most_tie(fold, ties):
    first = fold.both(ties[0], ties[1])
    second = fold.both(ties[0], ties[2])
    third = fold.both(ties[1], ties[2])
    return or_tie(fold, [first, second, third])


def gate_tie(fold, word, ties):
    if word == "and":
        return and_tie(fold, ties)
    if word == "or":
        return or_tie(fold, ties)
    if word == "either":
        return either_tie(fold, ties)
    if word == "not":
        return turned(ties[0])
    if word == "choose":
        return choose_tie(fold, ties)
    if word == "most":
        return most_tie(fold, ties)
    return ALWAYS if word == "yes" else NEVER


def moved_tie(moved, tie):
    return moved[tie // 2] + tie % 2


def swept(fold, ties):
    clean = Fold(fold.many)
    # For each knot that stays, the tie in the new fold that is lit where it is.
    moved = dict([(knot, 2 * knot) for knot in range(fold.many + 1)])
    for knot in reached(fold, [tie // 2 for tie in ties], {}):
        pair = fold.pair(knot)
        if pair is not None:
            moved[knot] = clean.both(moved_tie(moved, pair[0]), moved_tie(moved, pair[1]))
    return clean, [moved_tie(moved, tie) for tie in ties]


def folded(net):
    fold = Fold(len(net.inputs))
    known = {}
    for knot, name in enumerate(net.inputs, start=1):
        known[name] = 2 * knot
    for name, word, parts in net.gates:
        known[name] = gate_tie(fold, word, [known[part] for part in parts])
    return swept(fold, [known[name] for name in net.outputs])
