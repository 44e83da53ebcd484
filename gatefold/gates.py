"""Names, and where the gates are lit."""

from gatefold.bits import full_column

LETTERS = "abcdefghijklmnopqrstuvwxyz"
LONGEST_NAME = 8
KEPT_WORDS = ("in", "out", "is", "and", "or", "either", "not", "choose", "most", "yes", "no")
# For each word of a gate, how many parts it has at the least and at the most.
PART_COUNTS = {
    "and": (2, 6),
    "or": (2, 6),
    "either": (2, 6),
    "not": (1, 1),
    "choose": (3, 3),
    "most": (3, 3),
    "yes": (0, 0),
    "no": (0, 0),
}


def is_name(text):
    if len(text) < 1 or len(text) > LONGEST_NAME or text in KEPT_WORDS:
        return False
    return all([sign in LETTERS for sign in text])


def has_parts(word, count):
    if word not in PART_COUNTS:
        return False
    bounds = PART_COUNTS[word]
    return bounds[0] <= count <= bounds[1]


def all_lit(columns, every):
    lit = every
    for column in columns:
        lit = lit & column
    return lit


def some_lit(columns):
    lit = 0
    for column in columns:
        lit = lit | column
    return lit


def odd_lit(columns):
    lit = 0
    for column in columns:
        lit = lit ^ column
    return lit


def chosen_lit(columns, every):
    first = columns[0]
    return (first & columns[1]) | ((every ^ first) & columns[2])


def most_lit(columns):
    return (columns[0] & columns[1]) | (columns[0] & columns[2]) | (columns[1] & columns[2])


def column_by(word, columns, every):
    # `every` is the column that is lit at all lightings: without it nothing could be turned.
    if word == "and":
        return all_lit(columns, every)
    if word == "or":
        return some_lit(columns)
    if word == "either":
        return odd_lit(columns)
    if word == "not":
        return every ^ columns[0]
    if word == "choose":
        return chosen_lit(columns, every)
    if word == "most":
        return most_lit(columns)
    return every if word == "yes" else 0


def truth_columns(truths):
    return [1 if truth else 0 for truth in truths]


def lit_by(word, truths):
    # A truth is a column of no inputs, which has one lighting: so the rules stand once,
    # for one lighting and for all of them.
    return column_by(word, truth_columns(truths), full_column(0)) == 1
