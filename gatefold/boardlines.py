"""Boards written as lines of text, and read from them."""

from gatefold.boards import LONGEST_CUT, Board
from gatefold.errors import NoText

FIGURES = "0123456789"
MOST_FIGURES = 3


def table_text(table, count):
    return "".join([str((table >> place) & 1) for place in range(1 << count)])


def tie_text(tie):
    sign = "-" if tie % 2 == 1 else ""
    return sign + str(tie // 2)


def board_lines(board):
    lines = [" ".join(["board", str(board.many)])]
    for knot, cut, table in board.pieces():
        numbers = [str(lower) for lower in cut]
        lines.append(" ".join([str(knot), "of"] + numbers + ["is", table_text(table, len(cut))]))
    lines.append(" ".join(["out"] + [tie_text(tie) for tie in board.ties()]))
    return lines


def number_of(word):
    if len(word) < 1 or len(word) > MOST_FIGURES or not all([sign in FIGURES for sign in word]):
        raise NoText("not a number of one to three figures")
    if word[0] == "0" and word != "0":
        raise NoText("a nought ahead of a number")
    return int(word)


def many_of(row):
    if len(row) != 2 or row[0] != "board":
        raise NoText("not board and one number")
    return number_of(row[1])


def table_of(word, count):
    if len(word) != 1 << count or not all([sign in "01" for sign in word]):
        raise NoText("not a table of this cut")
    places = [place for place, sign in enumerate(word) if sign == "1"]
    return sum([1 << place for place in places])


def piece_of(row):
    count = len(row) - 4
    if count < 1 or count > LONGEST_CUT or row[1] != "of" or row[-2] != "is":
        raise NoText("not a knot, of, one to six numbers, is and a table")
    cut = [number_of(word) for word in row[2:-2]]
    return (number_of(row[0]), cut, table_of(row[-1], count))


def tie_of(word):
    if word.startswith("-"):
        return 2 * number_of(word[1:]) + 1
    return 2 * number_of(word)


def ties_of(row):
    if len(row) < 2 or row[0] != "out":
        raise NoText("not out and one word or more")
    return [tie_of(word) for word in row[1:]]


def board_of(lines):
    if len(lines) < 2:
        raise NoText("a board has two lines or more")
    # Cut at each blank: where there is one too many, a word without signs comes of it, which is
    # nowhere in form.
    rows = [line.split(" ") for line in lines]
    many = many_of(rows[0])
    pieces = [piece_of(row) for row in rows[1:-1]]
    return Board(many, pieces, ties_of(rows[-1]))
