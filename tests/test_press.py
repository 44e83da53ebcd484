import copy
import itertools
import unittest

from gatefold.boardlines import board_lines, board_of
from gatefold.errors import NoBoard, NoLine, NoMatch, NoName, NoSize, NoText
from gatefold.folding import folded
from gatefold.labels import Labels
from gatefold.laying import laid
from gatefold.netlines import net_of, written
from gatefold.nets import Net
from gatefold.press import pressed, unlike
from samples import (
    WRONG_SIZES,
    board_truths,
    fresh_name,
    lighting_truths,
    made_net,
    merged_labels,
    net_truths,
    refusal,
)

SIZES = range(2, 7)

# A net that adds two numbers of two figures.
ADDER = [
    "in a b c d",
    "low is either a c",
    "carry is and a c",
    "high is either b d carry",
    "over is most b d carry",
    "out low high over",
]

# Lines that are wrong, by the refusal that they ask for.
WRONG_NETS = [
    (NoLine, []),
    (NoLine, ["in a b"]),
    (NoLine, ["out a"]),
    (NoLine, ["", "out a"]),
    (NoLine, ["in", "out a"]),
    (NoLine, ["in a b", "x is nand a b", "out x"]),
    (NoLine, ["in a b", "x is and a", "out x"]),
    (NoLine, ["in a b", "x = and a b", "out x"]),
    (NoLine, ["in a b", "x is and a b", "out"]),
    (NoLine, ["in a B", "out a"]),
    (NoLine, ["in a b c d e f g h i j k", "out a"]),
    (NoName, ["in a a", "out a"]),
    (NoName, ["in a is", "out a"]),
    (NoName, ["in a b", "a is and a b", "out a"]),
    (NoName, ["in a b", "x is and a z", "out x"]),
    (NoName, ["in a b", "x is and a b", "out z"]),
    (NoName, ["in a abcdefghi", "out a"]),
]


def line_words(lines):
    """A net's parts, told apart from the program."""
    rows = [line.split(" ") for line in lines]
    return rows[0][1:], [(row[0], row[2], row[3:]) for row in rows[1:-1]], rows[-1][1:]


def board_words(lines):
    """A board's parts, told apart from the program."""
    rows = [line.split(" ") for line in lines]
    pieces = [(int(row[0]), [int(word) for word in row[2:-2]], int(row[-1][::-1], 2)) for row in rows[1:-1]]
    ties = [2 * abs(int(word)) + (word[0] == "-") for word in rows[-1][1:]]
    return int(rows[0][1]), pieces, ties


def least_unlike(lines, others):
    """The least lighting at which net and board differ, told apart from the program."""
    inputs, gates, outputs = line_words(lines)
    for lighting in range(2 ** len(inputs)):
        wanted = net_truths(inputs, gates, outputs, lighting_truths(lighting, len(inputs)))
        if board_truths(*board_words(others), lighting) != wanted:
            return lighting
    return None


class Checks(unittest.TestCase):
    def check_pressed(self, lines, size):
        handed = list(lines)
        told = pressed(handed, size)
        self.assertEqual(handed, list(lines))
        self.assertIs(type(told), list)
        for line in told:
            self.assertIs(type(line), str)
        with self.subTest(size=size, lines=lines[:3]):
            board = board_of(told)
            self.assertEqual(board_lines(board), told)
            self.assertIsNone(least_unlike(lines, told))
            self.assertEqual(board.columns(), net_of(lines).columns())
            for knot, cut, table in board.pieces():
                self.assertLessEqual(len(cut), size)
            fold, ties = folded(net_of(lines))
            self.assertEqual(board.ties(), ties)
            labels = Labels(fold, size)
            self.assertEqual(board.depths(), [labels.label(tie // 2) for tie in ties])
            self.assertIsNone(unlike(lines, told))
        return board

    def check_each_size(self, lines):
        rows = [self.check_pressed(lines, size).depths() for size in SIZES]
        for lesser, greater in zip(rows, rows[1:]):
            self.assertTrue(all(one >= other for one, other in zip(lesser, greater)))
        return rows


class PressedTest(Checks):
    def test_written_boards(self):
        lines = ["in a b", "x is and a b", "out x a"]
        for size in SIZES:
            self.assertEqual(pressed(lines, size), ["board 2", "3 of 1 2 is 0001", "out 3 1"])
        lines = ["in a b c", "x is either a b c", "out x"]
        self.assertEqual(pressed(lines, 2), ["board 3", "6 of 1 2 is 1001", "9 of 3 6 is 0110", "out -9"])
        for size in (3, 4, 5, 6):
            self.assertEqual(pressed(lines, size), ["board 3", "9 of 1 2 3 is 10010110", "out -9"])

    def test_the_adder(self):
        rows = self.check_each_size(ADDER)
        self.assertEqual(rows, [[1, 2, 4], [1, 2, 2], [1, 1, 1], [1, 1, 1], [1, 1, 1]])

    def test_nets_without_pieces(self):
        for lines in (
            ["in a", "out a"],
            ["in a b", "out b a b b"],
            ["in a", "x is not a", "y is not x", "out x y"],
            ["in a", "x is yes", "y is no", "out x y x"],
            ["in a b", "x is no", "y is and a x", "z is or b y", "out y z"],
            ["in a b", "x is and a b", "y is choose a b b", "out a"],
        ):
            for size in SIZES:
                board = self.check_pressed(lines, size)
                self.assertEqual(board.pieces(), [])
        self.assertEqual(pressed(["in a", "x is yes", "y is no", "out x y"], 2), ["board 1", "out -0 0"])
        self.assertEqual(pressed(["in a b", "x is not b", "out x b"], 6), ["board 2", "out -2 2"])

    def test_each_word(self):
        for word, parts in (("and", 6), ("or", 6), ("either", 6), ("not", 1), ("choose", 3), ("most", 3), ("yes", 0)):
            gate = " ".join(["x is", word, *list("abcdef")[:parts]])
            self.check_each_size(["in a b c d e f", gate, "out x"])

    def test_blanks_about_the_words(self):
        wide = ["  in a  b c", " x  is either a b c ", "out   x "]
        plain = ["in a b c", "x is either a b c", "out x"]
        for size in SIZES:
            self.assertEqual(pressed(wide, size), pressed(plain, size))

    def test_made_nets_of_one_to_ten_inputs(self):
        deepest = 0
        for many in range(1, 11):
            for number in range(6 if many < 9 else 2):
                lines = written(Net(*made_net(many, 5 + 5 * number, 1 + number, f"press {many} {number}")))
                deepest = max(deepest, *self.check_each_size(lines)[0])
        self.assertGreater(deepest, 5)

    def test_no_board_of_pieces_has_less_depth(self):
        for number in range(30):
            lines = written(Net(*made_net(3 + number % 5, 7, 3, f"least {number}")))
            fold, ties = folded(net_of(lines))
            for size in SIZES:
                least = merged_labels(fold, size)
                self.assertEqual(board_of(pressed(lines, size)).depths(), [least[tie // 2] for tie in ties])

    def test_the_greatest_net(self):
        letters = "abcdefghij"
        names = [*letters, *[fresh_name(number) for number in range(60)]]
        lines = ["in " + " ".join(letters)]
        for number in range(60):
            word = ["either", "either", "most"][number % 3]
            parts = names[number + 9 : number + 10] + names[number : number + (2 if word == "most" else 5)]
            lines.append(" ".join([names[number + 10], "is", word, *parts]))
        lines.append("out " + " ".join(names[-16:]))
        self.assertGreater(folded(net_of(lines))[0].total(), 500)
        for size in (2, 4, 6):
            self.check_pressed(lines, size)

    def test_the_board_on_which_the_folded_net_is_laid(self):
        for number in range(6):
            lines = written(Net(*made_net(6, 20, 5, f"laid {number}")))
            for size in SIZES:
                fold, ties = folded(net_of(lines))
                self.assertEqual(pressed(lines, size), board_lines(laid(fold, ties, size)))

    def test_the_lists_are_new_ones(self):
        lines = list(ADDER)
        kept = pressed(lines, 3)
        wanted = copy.deepcopy(kept)
        told = pressed(lines, 3)
        told.clear()
        lines.pop()
        lines[0] = "in a"
        self.assertEqual(kept, wanted)
        self.assertEqual(pressed(ADDER, 3), wanted)


class PressedRefusedTest(unittest.TestCase):
    def test_sizes_that_are_none(self):
        for size in [*WRONG_SIZES, object()]:
            for lines in (ADDER, ["in a", "out a"], ["in a", "x is yes", "out x"]):
                handed = list(lines)
                self.assertIs(refusal(pressed, handed, size), NoSize)
                self.assertEqual(handed, lines)

    def test_sizes_that_are_none_ahead_of_wrong_lines(self):
        for size in [*WRONG_SIZES, object()]:
            for wanted, lines in WRONG_NETS:
                self.assertIs(refusal(pressed, lines, size), NoSize)

    def test_wrong_lines(self):
        for wanted, lines in WRONG_NETS:
            for size in SIZES:
                handed = list(lines)
                with self.subTest(lines=lines, size=size):
                    self.assertIs(refusal(pressed, handed, size), wanted)
                    self.assertEqual(handed, lines)


def turned_sign(lines, place, number):
    """The board's lines with one sign of the table of one piece turned."""
    ahead, blank, table = lines[place].rpartition(" ")
    sign = {"0": "1", "1": "0"}[table[number]]
    return [*lines[:place], ahead + blank + table[:number] + sign + table[number + 1 :], *lines[place + 1 :]]


def with_outputs(lines, words):
    return [*lines[:-1], " ".join(["out", *words])]


class UnlikeTest(unittest.TestCase):
    def check(self, lines, others):
        handed = list(lines), list(others)
        wanted = least_unlike(lines, others)
        told = unlike(*handed)
        with self.subTest(lines=lines[:4], others=others[:4]):
            self.assertEqual(handed, (list(lines), list(others)))
            self.assertEqual(told, wanted)
            self.assertIs(type(told), type(wanted))
        return told

    def test_boards_that_are_alike(self):
        for number in range(20):
            lines = written(Net(*made_net(1 + number % 10, 25, 5, f"alike {number}")))
            for size in SIZES:
                self.assertIsNone(unlike(lines, pressed(lines, size)))
        # Another board than the one pressed, and alike nevertheless.
        lines = ["in a b", "x is and a b", "out x"]
        self.assertIsNone(self.check(lines, ["board 2", "5 of 1 2 is 1110", "out -5"]))
        self.assertIsNone(self.check(lines, ["board 2", "3 of 1 is 10", "8 of 2 3 is 0100", "out 8"]))

    def test_lit_in_the_one_or_in_the_other(self):
        lines = ["in a b", "x is and a b", "out x"]
        self.assertEqual(self.check(lines, ["board 2", "3 of 1 2 is 0000", "out 3"]), 3)
        self.assertEqual(self.check(lines, ["board 2", "3 of 1 2 is 0011", "out 3"]), 2)
        self.assertEqual(self.check(lines, ["board 2", "3 of 1 2 is 0101", "out 3"]), 1)
        self.assertEqual(self.check(lines, ["board 2", "3 of 1 2 is 1001", "out 3"]), 0)
        self.assertEqual(self.check(lines, ["board 2", "3 of 1 2 is 0110", "out 3"]), 1)
        self.assertEqual(self.check(lines, ["board 2", "out -0"]), 0)
        self.assertEqual(self.check(lines, ["board 2", "out 0"]), 3)

    def test_one_sign_of_a_table_turned(self):
        told = set()
        for number in range(6):
            lines = written(Net(*made_net(2 + number, 10, 3, f"signs {number}")))
            for size in (2, 4, 6):
                others = pressed(lines, size)
                for place in range(1, len(others) - 1):
                    for sign in range(0, len(others[place].rpartition(" ")[2]), 3):
                        told.add(self.check(lines, turned_sign(others, place, sign)))
        # Some signs are never asked for; of the others, the first lighting is seldom the least one that differs.
        self.assertIn(None, told)
        self.assertGreater(len(told), 12)

    def test_one_sign_turned_at_each_lighting(self):
        lines = ["in a b c d e f", "x is either a b c d e f", "out a x"]
        others = pressed(lines, 6)
        self.assertEqual(len(others), 3)
        for lighting in range(64):
            self.assertEqual(self.check(lines, turned_sign(others, 1, lighting)), lighting)

    def test_an_output_turned(self):
        for number in range(8):
            lines = written(Net(*made_net(3 + number, 15, 6, f"turned {number}")))
            others = pressed(lines, 4)
            outputs = others[-1].split(" ")[1:]
            for place, word in enumerate(outputs):
                words = list(outputs)
                words[place] = word[1:] if word.startswith("-") else "-" + word
                # An output and the same one turned differ everywhere, so also at no input lit.
                self.assertEqual(self.check(lines, with_outputs(others, words)), 0)

    def test_outputs_changed_about(self):
        others = pressed(ADDER, 3)
        words = others[-1].split(" ")[1:]
        for order in itertools.permutations(range(3)):
            told = self.check(ADDER, with_outputs(others, [words[place] for place in order]))
            self.assertEqual(told is None, order == (0, 1, 2))
        lines = ["in a b c", "out a b c"]
        self.assertEqual(self.check(lines, ["board 3", "out 1 3 2"]), 2)
        self.assertEqual(self.check(lines, ["board 3", "out 2 1 3"]), 1)
        self.assertEqual(self.check(lines, ["board 3", "out 3 2 1"]), 1)
        self.assertIsNone(self.check(lines, ["board 3", "out 1 2 3"]))

    def test_the_least_of_several_outputs(self):
        lines = ["in a b c", "x is and a b c", "y is and b c", "out x y a"]
        self.assertEqual(self.check(lines, ["board 3", "out 0 0 1"]), 6)
        self.assertEqual(self.check(lines, ["board 3", "4 of 2 3 is 0001", "out 0 4 1"]), 7)
        self.assertEqual(self.check(lines, ["board 3", "out 0 0 0"]), 1)
        self.assertEqual(self.check(lines, ["board 3", "out 0 3 1"]), 4)

    def test_the_last_lighting_of_ten_inputs(self):
        names = "abcdefghij"
        lines = ["in " + " ".join(names), "x is and a b c d e f", "y is and x g h i j", "out y"]
        self.assertEqual(self.check(lines, ["board 10", "out 0"]), 1023)
        pieces = ["11 of 1 2 3 4 5 6 is " + "0" * 63 + "1", "12 of 7 8 9 10 11 is " + "0" * 31 + "1"]
        self.assertIsNone(self.check(lines, ["board 10", *pieces, "out 12"]))

    def test_rows_of_seven_hundred_pieces(self):
        row = ["board 1"] + [f"{knot} of {knot - 1} is 10" for knot in range(2, 702)]
        self.assertIsNone(self.check(["in a", "out a"], [*row, "out 701"]))
        self.assertEqual(self.check(["in a", "out a"], [*row, "out -701"]), 0)
        self.assertEqual(self.check(["in a", "x is yes", "out x"], [*row, "out 701"]), 0)
        self.assertEqual(self.check(["in a", "x is no", "out x"], [*row, "out 701"]), 1)


WRONG_BOARDS = [
    (NoText, []),
    (NoText, ["board 2"]),
    (NoText, ["board 2 ", "out 1"]),
    (NoText, ["board 2", "out"]),
    (NoText, ["board 2", "out 01"]),
    (NoText, ["board 2", "3 of 1 2 is 001", "out 3"]),
    (NoText, ["board 0", "out 01"]),
    (NoText, ["board 2", "3 of 1 5 is 0001", "out x"]),
    (NoBoard, ["board 0", "out 0"]),
    (NoBoard, ["board 11", "out 0"]),
    (NoBoard, ["board 2", "out 3"]),
    (NoBoard, ["board 2", "3 of 1 4 is 0001", "out 3"]),
    (NoBoard, ["board 2", "2 of 1 2 is 0001", "out 1"]),
]

NET = ["in a b", "x is or a b", "out x a"]
BOARD = ["board 2", "3 of 1 2 is 0111", "out 3 1"]
# Boards that are none of this net: by their inputs, by their outputs, by both.
OTHER_BOARDS = [
    ["board 3", "4 of 1 2 is 0111", "out 4 1"],
    ["board 1", "out 1 1"],
    ["board 10", "out 0 0"],
    ["board 2", "3 of 1 2 is 0111", "out 3"],
    ["board 2", "3 of 1 2 is 0111", "out 3 1 1"],
    ["board 2", "3 of 1 2 is 0111", "out 3 1 0 0 0 0"],
    ["board 2", "out 0"],
    ["board 3", "out 0"],
    ["board 1", "out 0 0 0"],
]


class UnlikeRefusedTest(unittest.TestCase):
    def check_refused(self, lines, others, wanted):
        handed = list(lines), list(others)
        with self.subTest(lines=lines, others=others):
            self.assertIs(refusal(unlike, *handed), wanted)
            self.assertEqual(handed, (list(lines), list(others)))

    def test_neither_is_wrong(self):
        self.check_refused(NET, BOARD, None)

    def test_wrong_lines_of_the_net(self):
        for wanted, lines in WRONG_NETS:
            self.check_refused(lines, BOARD, wanted)

    def test_wrong_lines_of_the_board(self):
        for wanted, others in WRONG_BOARDS:
            self.check_refused(NET, others, wanted)

    def test_other_numbers_of_inputs_or_outputs(self):
        for others in OTHER_BOARDS:
            self.check_refused(NET, others, NoMatch)
        for lines in (["in a", "out a a"], ["in a b c", "out a b"], ["in a b", "out a"], ["in a b", "out a a a"]):
            self.check_refused(lines, BOARD, NoMatch)

    def test_the_net_ahead_of_the_board(self):
        for wanted, lines in WRONG_NETS:
            for other, others in WRONG_BOARDS:
                self.check_refused(lines, others, wanted)

    def test_the_net_ahead_of_what_does_not_match(self):
        for wanted, lines in WRONG_NETS:
            for others in OTHER_BOARDS:
                self.check_refused(lines, others, wanted)

    def test_the_board_ahead_of_what_does_not_match(self):
        for lines in (["in a", "out a"], ["in a b c", "out a b c"], ["in a b c d e", "out a a a a a"]):
            for wanted, others in WRONG_BOARDS:
                self.check_refused(lines, others, wanted)

    def test_lines_in_the_place_of_one_another(self):
        self.check_refused(BOARD, NET, NoLine)
        self.check_refused(NET, NET, NoText)
        self.check_refused(BOARD, BOARD, NoLine)

    def test_several_things_of_one_net_or_board(self):
        self.check_refused(["in a a", "x is nand a b", "out x"], BOARD, NoName)
        self.check_refused(["in a b", "x is nand a b", "out z"], BOARD, NoLine)
        self.check_refused(NET, ["board 0", "3 of 1 2 is 012", "out 0"], NoText)


if __name__ == "__main__":
    unittest.main()
