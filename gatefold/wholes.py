"""Whole numbers, and lists of them."""


def is_whole(thing):
    # To Python a truth is a number, too.
    return isinstance(thing, int) and not isinstance(thing, bool)


def is_between(thing, least, greatest):
    return is_whole(thing) and least <= thing <= greatest


def is_rising(numbers):
    return all([one < other for one, other in zip(numbers, numbers[1:])])
