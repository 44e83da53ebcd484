import copy
import itertools
import unittest

from gatefold.boardlines import board_lines, board_of
from gatefold.boards import Board
from gatefold.errors import NoBoard, NoText
from samples import made_board, refusal

# Good lines, of which one thing after the other is spoilt.
LINES = ["board 3", "5 of 1 2 is 0110", "7 of 1 3 5 is 00010011", "10 of 7 is 10", "out 0 -0 3 -5 7 -10 -10"]
PIECES = [(5, [1, 2], 0b0110), (7, [1, 3, 5], 0b11001000), (10, [7], 0b01)]
TIES = [0, 1, 6, 11, 14, 21, 21]

# What is no number, be it for its signs, its length or its nought; much of it is a number to Python.
NO_NUMBERS = ["", "x", "a", "05", "00", "000", "007", "+5", "+0", "--5", "5-", "5+", "1000", "0001", "1234", "9999"]
NO_NUMBERS += ["1_0", "5.", ".5", "5.0", "1e1", "0x5", "0b1", "5a", "a5", "5,", "\t5", "5\t", "\n5", "5\n", "5\r"]
NO_NUMBERS += ["\x0b5", "\u0665", "\u00b2", "\uff15", "5\u00a0", "\u20035", "5\u200b", "\u22125"]
NO_NUMBERS += ["True", "None", "of", "is", "out"]


def board_parts(board):
    return board.many, board.pieces(), board.ties()


def with_line(place, line):
    lines = list(LINES)
    lines[place] = line
    return lines


def with_word(place, number, word):
    """The good lines with another word in the place of one."""
    row = LINES[place].split(" ")
    row[number] = word
    return with_line(place, " ".join(row))


def number_places():
    """The line and the place in it of each word that is a number, those behind `out` left out."""
    yield 0, 1
    for place in (1, 2, 3):
        row = LINES[place].split(" ")
        for number in [0, *range(2, len(row) - 2)]:
            yield place, number


class WrittenTest(unittest.TestCase):
    def check(self, board, wanted):
        before = copy.deepcopy(board_parts(board))
        told = board_lines(board)
        self.assertIs(type(told), list)
        for line in told:
            self.assertIs(type(line), str)
        self.assertEqual(told, wanted)
        self.assertEqual(board_parts(board), before)

    def test_the_written_example(self):
        board = Board(2, [(3, [1, 2], 0b1000)], [6, 7, 1])
        self.check(board, ["board 2", "3 of 1 2 is 0001", "out 3 -3 -0"])

    def test_the_lines_that_are_spoilt_below(self):
        self.check(Board(3, PIECES, TIES), LINES)

    def test_without_pieces(self):
        self.check(Board(1, [], [0]), ["board 1", "out 0"])
        self.check(Board(1, [], [1]), ["board 1", "out -0"])
        self.check(Board(10, [], [20, 21, 2, 3]), ["board 10", "out 10 -10 1 -1"])

    def test_the_bit_worth_1_stands_first(self):
        for count in range(1, 7):
            cut = list(range(1, count + 1))
            names = " ".join(str(number) for number in cut)
            for place in range(2**count):
                signs = "0" * place + "1" + "0" * (2**count - 1 - place)
                board = Board(6, [(7, cut, 2**place)], [14])
                self.check(board, ["board 6", f"7 of {names} is {signs}", "out 7"])

    def test_tables_without_and_with_all_bits(self):
        for count in range(1, 7):
            cut = list(range(5, 5 + count))
            names = " ".join(str(number) for number in cut)
            pieces = [(12, cut, 0), (999, cut, 2 ** 2**count - 1)]
            none, every = "0" * 2**count, "1" * 2**count
            self.check(
                Board(10, pieces, [1998, 25]),
                ["board 10", f"12 of {names} is {none}", f"999 of {names} is {every}", "out 999 -12"],
            )

    def test_the_list_is_a_new_one(self):
        board = Board(3, PIECES, TIES)
        kept = board_lines(board)
        board_lines(board).clear()
        told = board_lines(board)
        told[0] = "board 4"
        told.append("out 0")
        self.check(board, LINES)
        self.assertEqual(kept, LINES)


class ReadTest(unittest.TestCase):
    def check(self, lines, many, pieces, ties):
        handed = list(lines)
        board = board_of(handed)
        self.assertIsInstance(board, Board)
        self.assertEqual(handed, list(lines))
        self.assertEqual(board_parts(board), (many, pieces, ties))
        self.assertEqual(board_lines(board), list(lines))

    def test_the_written_example(self):
        self.check(["board 2", "3 of 1 2 is 0001", "out 3 -3 -0"], 2, [(3, [1, 2], 0b1000)], [6, 7, 1])

    def test_the_lines_that_are_spoilt_below(self):
        self.check(LINES, 3, PIECES, TIES)

    def test_ties_0_and_1(self):
        self.check(["board 1", "out 0"], 1, [], [0])
        self.check(["board 1", "out -0"], 1, [], [1])
        self.check(["board 10", "out -0 0 0 -0 10 -10"], 10, [], [1, 0, 0, 1, 20, 21])

    def test_all_tables_of_one_and_of_two(self):
        for signs in itertools.product("01", repeat=2):
            text = "".join(signs)
            self.check(["board 1", f"2 of 1 is {text}", "out 2"], 1, [(2, [1], int(text[::-1], 2))], [4])
        for signs in itertools.product("01", repeat=4):
            text = "".join(signs)
            self.check(["board 2", f"3 of 1 2 is {text}", "out 3"], 2, [(3, [1, 2], int(text[::-1], 2))], [6])

    def test_tables_of_three_to_six(self):
        for count in range(3, 7):
            cut = list(range(1, count + 1))
            names = " ".join(str(number) for number in cut)
            for number in (0, 1, 2, 5 ** (2**count // 3), 2 ** (2**count - 1), 2 ** 2**count - 1):
                text = f"{number:0{2**count}b}"[::-1]
                self.check(["board 7", f"8 of {names} is {text}", "out -8"], 7, [(8, cut, number)], [17])

    def test_boards_written_and_read_again(self):
        for many in range(1, 11):
            for count in (0, 1, 5, 60):
                parts = made_board(many, count, 12, f"lines {many} {count}")
                board = Board(*parts)
                again = board_of(board_lines(board))
                self.assertEqual(board_parts(again), parts)
                self.assertEqual(again.columns(), board.columns())
                self.assertEqual(again.depths(), board.depths())

    def test_rows_of_seven_hundred_lines(self):
        parts = made_board(6, 700, 40, "seven hundred", 10)
        lines = board_lines(Board(*parts))
        self.assertEqual(len(lines), 702)
        self.check(lines, *parts)
        lines = ["board 1"] + [f"{knot} of {knot - 1} is 10" for knot in range(2, 1000)] + ["out 999 -999"]
        self.check(lines, 1, [(knot, [knot - 1], 1) for knot in range(2, 1000)], [1998, 1999])
        self.assertEqual(board_of(lines).depths(), [998, 998])

    def test_many_outputs(self):
        ties = [number % 22 for number in range(1500)]
        line = " ".join(["out"] + ["-" * (tie % 2) + str(tie // 2) for tie in ties])
        self.check(["board 10", line[:4000].rpartition(" ")[0]], 10, [], ties[: line[:4000].count(" ") - 1])

    def test_the_lines_are_changed_behind(self):
        lines = list(LINES)
        board = board_of(lines)
        lines[0] = "board 4"
        lines.pop()
        self.assertEqual(board_parts(board), (3, PIECES, TIES))
        lines.clear()
        self.assertEqual(board_lines(board), LINES)
        board.pieces()[0][1].clear()
        self.assertEqual(board_parts(board_of(LINES)), (3, PIECES, TIES))


class Refused(unittest.TestCase):
    def check_refused(self, lines, wanted):
        handed = list(lines)
        with self.subTest(lines=ascii(lines)[:300]):
            self.assertIs(refusal(board_of, handed), wanted)
            self.assertEqual(handed, list(lines))

    def check_line(self, place, line):
        self.check_refused(with_line(place, line), NoText)


class NoTextTest(Refused):
    def test_fewer_than_two_lines(self):
        for line in ["", " ", *LINES, "board 0", "out -0", "board 1 out 0", "board 1\nout 0"]:
            self.check_refused([line], NoText)
        self.check_refused([], NoText)

    def test_a_line_without_words(self):
        for place in range(len(LINES)):
            for line in ("", " ", "  ", "\t", "\n"):
                self.check_line(place, line)
                self.check_refused([*LINES[:place], line, *LINES[place:]], NoText)
        self.check_refused([*LINES, ""], NoText)

    def test_blanks_ahead_behind_and_two_between(self):
        for place, line in enumerate(LINES):
            self.check_line(place, " " + line)
            self.check_line(place, "  " + line)
            self.check_line(place, line + " ")
            self.check_line(place, line + "  ")
            for sign in ("\n", "\t", "\r", "\x0b", "\u00a0", "\u200b", "\0"):
                self.check_line(place, line + sign)
                self.check_line(place, sign + line)
            for gap in [number for number, sign in enumerate(line) if sign == " "]:
                self.check_line(place, line[:gap] + " " + line[gap:])
                for sign in ("", "\t", "\n", "\x1f", "\u00a0", "\u2003", "_", ",", ", ", " \t"):
                    # A tie may be joined of two others, as long as it has three figures at the most.
                    if place != 4 or sign != "" or line[gap + 1] == "-" or gap == 3:
                        self.check_line(place, line[:gap] + sign + line[gap + 1 :])

    def test_a_word_less(self):
        for place, line in enumerate(LINES[:4]):
            row = line.split(" ")
            for number in range(len(row)):
                self.check_line(place, " ".join(row[:number] + row[number + 1 :]))
        self.check_line(4, "0 -0 3 -5 7 -10 -10")
        self.check_line(4, "out")
        self.check_line(4, "out ")
        self.check_line(0, "board")
        self.check_line(0, "board ")

    def test_a_word_more(self):
        for word in ("1", "0", "2", "999", "of", "is", "board", "out", "x", "01", "-1", "-"):
            for place, line in enumerate(LINES[:4]):
                row = line.split(" ")
                for number in range(len(row) + 1):
                    self.check_line(place, " ".join([*row[:number], word, *row[number:]]))
            row = LINES[4].split(" ")
            self.check_line(4, " ".join([word, *row]))
            if word not in ("0", "1", "2", "999", "-1"):
                for number in range(len(row) + 1):
                    self.check_line(4, " ".join([*row[:number], word, *row[number:]]))

    def test_another_word(self):
        for word in ["", *"x Board BOARD boards boar in out of is OF Is IS Out - 3".split()]:
            self.check_refused(with_word(0, 0, word), NoText)
            for place in (1, 2, 3):
                if word != "of":
                    self.check_refused(with_word(place, 1, word), NoText)
                if word != "is":
                    self.check_refused(with_word(place, -2, word), NoText)
            if word != "out":
                self.check_refused(with_word(4, 0, word), NoText)

    def test_no_number_in_the_place_of_each_number(self):
        for word in [*NO_NUMBERS, "-5", "-1", "-0", "-"]:
            for place, number in number_places():
                self.check_refused(with_word(place, number, word), NoText)

    def test_no_number_behind_out(self):
        for word in [*NO_NUMBERS, "-", "--", "- 1", "+-1", "-+1", "1-", "---0", "\u22120", "\u20110"]:
            for number in range(1, 8):
                self.check_refused(with_word(4, number, word), NoText)
        for word in NO_NUMBERS:
            for number in range(1, 8):
                self.check_refused(with_word(4, number, "-" + word), NoText)

    def test_cuts_of_no_number_or_too_many(self):
        self.check_line(1, "5 of is 01")
        self.check_line(1, "5 of is 0")
        self.check_line(1, "5 of is 1")
        self.check_line(1, "5 of is ")
        self.check_line(1, "5 of  is 0")
        for count in (7, 8, 10):
            numbers = " ".join(str(number) for number in range(1, count + 1))
            self.check_refused(["board 10", f"11 of {numbers} is " + "0" * 2**count, "out 11"], NoText)
            self.check_refused(["board 10", f"11 of {numbers} is " + "0" * 64, "out 11"], NoText)
        self.assertIsNone(refusal(board_of, ["board 10", "11 of 1 2 3 4 5 6 is " + "01" * 32, "out 11"]))

    def test_tables_of_another_size(self):
        for count in range(1, 7):
            numbers = " ".join(str(number) for number in range(1, count + 1))
            for size in {0, 1, 2, 3, 4, 8, 16, 32, 64, 128, 2**count - 1, 2**count + 1}:
                lines = ["board 6", f"7 of {numbers} is " + "0" * size, "out 7"]
                self.check_refused(lines, None if size == 2**count else NoText)

    def test_tables_with_another_sign(self):
        for place in (1, 2, 3):
            table = LINES[place].split(" ")[-1]
            for sign in "2 9aOol-+_.\t\n" + "\u0660\u0661\u00b9\uff10\uff11":
                for number in range(len(table)):
                    self.check_refused(with_word(place, -1, table[:number] + sign + table[number + 1 :]), NoText)

    def test_lines_that_stand_elsewhere(self):
        for one, other in itertools.combinations(range(5), 2):
            lines = list(LINES)
            lines[one], lines[other] = lines[other], lines[one]
            self.check_refused(lines, NoText if one == 0 or other == 4 else NoBoard)
        self.check_refused(LINES[1:], NoText)
        self.check_refused(LINES[:-1], NoText)
        self.check_refused(LINES + LINES, NoText)
        self.check_refused([*LINES, LINES[4]], NoText)
        self.check_refused([LINES[0], *LINES], NoText)
        self.check_refused(["in a b", "x is and a b", "out x"], NoText)


# Lines of the form told that are no board.
NO_BOARDS = [
    with_line(0, "board 0"),
    with_line(0, "board 2"),
    with_line(0, "board 5"),
    with_line(0, "board 11"),
    with_line(0, "board 999"),
    with_line(1, "3 of 1 2 is 0110"),
    with_line(1, "0 of 1 2 is 0110"),
    with_line(1, "7 of 1 2 is 0110"),
    with_line(1, "999 of 1 2 is 0110"),
    with_line(1, "5 of 0 2 is 0110"),
    with_line(1, "5 of 2 1 is 0110"),
    with_line(1, "5 of 2 2 is 0110"),
    with_line(1, "5 of 1 4 is 0110"),
    with_line(1, "5 of 1 5 is 0110"),
    with_line(1, "5 of 1 7 is 0110"),
    with_line(2, "5 of 1 3 is 0000"),
    with_line(2, "6 of 1 3 is 0000"),
    with_line(3, "10 of 6 is 00"),
    with_line(3, "9 of 7 is 00"),
    with_line(4, "out 4"),
    with_line(4, "out 0 -0 -6"),
    with_line(4, "out 0 999"),
    with_line(4, "out -11"),
    ["board 0", "out 0"],
    ["board 11", "out 0"],
    ["board 1", "out 2"],
    ["board 1", "out -2"],
]


class NoBoardTest(Refused):
    def test_lines_of_the_form_that_are_no_board(self):
        for lines in NO_BOARDS:
            self.check_refused(lines, NoBoard)

    def test_a_line_out_of_form_besides(self):
        for lines in NO_BOARDS:
            for place, line in enumerate(lines):
                for wrong in (line + " ", " " + line, line.replace(" ", "  ", 1), line + " x", line + "\n", ""):
                    self.check_refused([*lines[:place], wrong, *lines[place + 1 :]], NoText)
            self.check_refused([*lines, ""], NoText)
            self.check_refused(["", *lines], NoText)
            self.check_refused(lines[:1], NoText)
            self.check_refused([*lines[:-1], "1 of 1 is 012", lines[-1]], NoText)
            self.check_refused([*lines[:-1], "1000 of 1 is 01", lines[-1]], NoText)

    def test_two_things_that_are_no_board(self):
        for one, other in itertools.product(["board 0", "board 11"], ["out 4", "out 999"]):
            self.check_refused([one, *LINES[1:-1], other], NoBoard)

    def test_an_object_stays_when_lines_are_refused(self):
        board = board_of(LINES)
        for lines in (NO_BOARDS[0], with_line(4, "out"), []):
            self.assertIsNotNone(refusal(board_of, lines))
            self.assertEqual(board_lines(board), LINES)


if __name__ == "__main__":
    unittest.main()
