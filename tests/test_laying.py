import copy
import unittest

from gatefold.boards import Board
from gatefold.errors import NoSize
from gatefold.folding import folded
from gatefold.folds import Fold
from gatefold.labels import Labels
from gatefold.laying import laid
from gatefold.lighting import column
from gatefold.nets import Net
from samples import (
    WRONG_SIZES,
    board_columns,
    board_depths,
    braided_fold,
    cone_sets,
    cut_truth,
    fold_pairs,
    long_row,
    made_fold,
    made_net,
    merged_labels,
    refusal,
    round_row,
    told_table,
    wide_braid,
)

SIZES = range(2, 7)


def all_told(board):
    # A copy: lists that were not the asker's own would change with what they are held against.
    return copy.deepcopy((board.many, board.pieces(), board.ties(), board.columns(), board.depths()))


def needed_knots(board):
    """The knots of the outputs and of the cuts of the pieces that are needed, told apart from the program."""
    cuts = {knot: cut for knot, cut, table in board.pieces()}
    waiting = [tie // 2 for tie in board.ties()]
    needed = set()
    while waiting:
        knot = waiting.pop()
        if knot > board.many and knot not in needed:
            needed.add(knot)
            waiting.extend(cuts[knot])
    return sorted(needed)


class Checks(unittest.TestCase):
    def check_pieces(self, fold, board, size, labels, step):
        cones = cone_sets(fold)
        for knot, cut, table in board.pieces()[::step]:
            with self.subTest(size=size, knot=knot, cut=cut):
                self.assertLessEqual(len(cut), size)
                self.assertTrue(cut_truth(fold, knot, cut, cones))
                self.assertEqual(table, told_table(fold, knot, cut))
                self.assertEqual(1 + max(labels.label(lower) for lower in cut), labels.label(knot))

    def check_laid(self, fold, ties, size, step=1):
        """Of large boards only some pieces are looked at by themselves, each `step` on from the last."""
        pairs = fold_pairs(fold)
        handed = list(ties)
        board = laid(fold, handed, size)
        self.assertIsInstance(board, Board)
        self.assertEqual((handed, fold_pairs(fold)), (list(ties), pairs))
        self.assertEqual((board.many, board.ties()), (fold.many, list(ties)))
        self.assertEqual([piece[0] for piece in board.pieces()], needed_knots(board))
        labels = Labels(fold, size)
        self.check_pieces(fold, board, size, labels, step)
        with self.subTest(size=size):
            self.assertEqual(board.columns(), [column(fold, tie) for tie in ties])
            self.assertEqual(board.depths(), [labels.label(tie // 2) for tie in ties])
        return board


class LaidTest(Checks):
    def test_one_and_knot(self):
        fold = Fold(2)
        fold.both(2, 5)
        for size in SIZES:
            board = self.check_laid(fold, [6, 7], size)
            self.assertEqual(board.pieces(), [(3, [1, 2], 0b0010)])
            self.assertEqual((board.columns(), board.depths()), ([0b0010, 0b1101], [1, 1]))

    def test_a_written_fold(self):
        fold = Fold(3)
        for one, other in ((2, 5), (3, 4), (9, 11), (6, 12), (7, 13), (15, 17)):
            fold.both(one, other)
        board = self.check_laid(fold, [19], 3)
        self.assertEqual(board.pieces(), [(9, [1, 2, 3], 0b01101001)])
        board = self.check_laid(fold, [19, 12], 2)
        self.assertEqual(board.pieces(), [(6, [1, 2], 0b1001), (9, [3, 6], 0b0110)])
        self.assertEqual((board.columns(), board.depths()), ([0b10010110, 0b10011001], [2, 1]))

    def test_ties_of_knot_0_and_of_inputs_alone(self):
        for many in range(1, 11):
            folds = [Fold(many)] if many == 1 else [Fold(many), made_fold(many, many + 20, f"inputs {many}")]
            for fold in folds:
                for ties in ([0], [1], [2], [2 * many + 1], [0, 1, 1, 0], list(range(2 * many + 2))):
                    for size in SIZES:
                        board = self.check_laid(fold, ties, size)
                        self.assertEqual(board.pieces(), [])
                        self.assertEqual(board.depths(), [0] * len(ties))

    def test_small_folds_by_each_size(self):
        for seed in range(40):
            many = 2 + seed % 5
            fold = made_fold(many, many + 12, f"laid {seed}", [None, many + 1][seed % 2])
            top = 2 * fold.total() - 1
            for size in SIZES:
                for ties in ([top], [top - 1, top - 4, top], [top - 2, 0, 2, top - 7, top - 7]):
                    board = self.check_laid(fold, ties, size)
                    parts = (board.many, board.pieces(), board.ties())
                    self.assertEqual(board.columns(), board_columns(*parts))
                    self.assertEqual(board.depths(), board_depths(*parts))
                    least = merged_labels(fold, size)
                    self.assertEqual(board.depths(), [least[tie // 2] for tie in ties])

    def test_all_ties_at_once(self):
        fold = made_fold(5, 150, "all ties", 20)
        for size in SIZES:
            board = self.check_laid(fold, list(range(300)), size, 3)
            self.assertEqual(len(board.pieces()), 150 - 6)

    def test_ties_that_are_alike_or_turned(self):
        fold = made_fold(6, 40, "alike", 12)
        for size in SIZES:
            one = self.check_laid(fold, [78], size)
            other = self.check_laid(fold, [79, 78, 79, 79, 78], size)
            self.assertEqual(other.pieces(), one.pieces())
            self.assertEqual(other.depths(), one.depths() * 5)

    def test_knots_that_nobody_needs(self):
        fold = made_fold(4, 60, "nobody")
        for tie in range(10, 120, 9):
            for size in SIZES:
                board = self.check_laid(fold, [tie], size)
                self.assertEqual(board.pieces()[-1][0], tie // 2)

    def test_folded_nets(self):
        for number in range(10):
            fold, ties = folded(Net(*made_net(1 + number, 30, 8, f"laid nets {number}")))
            for size in SIZES:
                self.check_laid(fold, ties, size)

    def test_rows_of_more_than_five_hundred_knots(self):
        for fold, size, least in (
            (long_row(2, 520), 2, 1),
            (braided_fold(3, 520), 3, 1),
            (round_row(10, 540), 2, 500),
            (round_row(8, 520), 5, 100),
            (wide_braid(7, 520), 6, 20),
        ):
            top = 2 * fold.total() - 2
            board = self.check_laid(fold, [top, top + 1, top - 2, 0, 2], size, 7)
            self.assertGreaterEqual(board.depths()[0], least)

    def test_a_fold_of_a_thousand_knots(self):
        fold = made_fold(10, 1000, "laid thousand", 40)
        for size in (3, 6):
            board = self.check_laid(fold, [1998, 1999, 1993], size, 19)
            self.assertGreater(len(board.pieces()), 50)


class RefusedTest(unittest.TestCase):
    def test_sizes_that_are_none(self):
        fold = made_fold(3, 12, "laid size")
        pairs = fold_pairs(fold)
        ties = [22, 23, 2, 0]
        for size in [*WRONG_SIZES, fold, Labels, object()]:
            with self.subTest(size=size):
                self.assertIs(refusal(laid, fold, ties, size), NoSize)
                # Also where no piece is needed.
                self.assertIs(refusal(laid, fold, [0, 1, 2, 7], size), NoSize)
                self.assertIs(refusal(laid, Fold(1), [2], size), NoSize)
        self.assertEqual((fold_pairs(fold), ties), (pairs, [22, 23, 2, 0]))

    def test_sizes_that_are_one(self):
        for size in SIZES:
            self.assertIsNone(refusal(laid, Fold(1), [2], size))


class KeptTest(unittest.TestCase):
    def test_the_fold_grows_behind(self):
        fold = made_fold(6, 60, "grows", 12)
        ties = [118, 117, 60, 2, 1]
        board = laid(fold, ties, 3)
        wanted = all_told(laid(made_fold(6, 60, "grows", 12), ties, 3))
        for number in range(40):
            fold.both(2 * fold.total() - 1, 2 * (number % 6 + 1))
        self.assertEqual(fold.total(), 100)
        self.assertEqual(all_told(board), wanted)
        laid(fold, [198], 2)
        self.assertEqual(all_told(board), wanted)
        self.assertEqual(laid(fold, ties, 3).columns(), wanted[3])

    def test_the_ties_are_changed_behind(self):
        fold = made_fold(4, 30, "changed")
        ties = [58, 41, 0]
        board = laid(fold, ties, 2)
        wanted = all_told(board)
        ties.append(3)
        ties[0] = 2
        ties.pop(1)
        self.assertEqual(all_told(board), wanted)

    def test_the_lists_told_are_changed(self):
        fold = made_fold(4, 30, "own")
        board = laid(fold, [58, 41, 0], 2)
        wanted = all_told(board)
        for piece in board.pieces():
            piece[1].clear()
        for told in (board.pieces(), board.ties(), board.columns(), board.depths()):
            told.clear()
        self.assertEqual(all_told(board), wanted)
        self.assertEqual(all_told(laid(fold, [58, 41, 0], 2)), wanted)


if __name__ == "__main__":
    unittest.main()
