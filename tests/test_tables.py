import itertools
import random
import unittest

from gatefold.cones import is_cut
from gatefold.errors import NoCut
from gatefold.folds import Fold
from gatefold.lighting import is_lit
from gatefold.tables import table
from samples import (
    HUGE,
    braided_fold,
    cone_sets,
    fold_pairs,
    long_row,
    made_cut,
    made_fold,
    refusal,
    small_cuts,
    told_table,
)


class TableTest(unittest.TestCase):
    def check_table(self, fold, knot, cut, lightings=None):
        pairs = fold_pairs(fold)
        handed = list(cut)
        told = table(fold, knot, handed)
        with self.subTest(knot=knot, cut=cut):
            self.assertEqual(handed, list(cut))
            self.assertEqual(fold_pairs(fold), pairs)
            self.assertIs(type(told), int)
            self.assertEqual(told, told_table(fold, knot, cut))
            for lighting in range(2**fold.many) if lightings is None else lightings:
                number = sum(2**place for place, lower in enumerate(cut) if is_lit(fold, 2 * lower, lighting))
                self.assertEqual(told >> number & 1 == 1, is_lit(fold, 2 * knot, lighting))
        return told

    def test_all_two_ties_of_two_inputs(self):
        for ties, wanted in (((2, 4), 0b1000), ((2, 5), 0b0010), ((3, 4), 0b0100), ((3, 5), 0b0001)):
            fold = Fold(2)
            fold.both(*ties)
            self.assertEqual(self.check_table(fold, 3, [1, 2]), wanted)

    def test_written_tables(self):
        fold = Fold(3)
        for one, other in ((2, 5), (3, 4), (9, 11), (6, 12), (7, 13)):
            fold.both(one, other)
        # Knot 6 is lit where the first two inputs are alike.
        self.assertEqual(self.check_table(fold, 6, [1, 2]), 0b1001)
        self.assertEqual(self.check_table(fold, 6, [4, 5]), 0b0001)
        self.assertEqual(self.check_table(fold, 7, [3, 6]), 0b1000)
        self.assertEqual(self.check_table(fold, 7, [1, 2, 3]), 0b10010000)
        self.assertEqual(self.check_table(fold, 8, [3, 6]), 0b0001)
        self.assertEqual(self.check_table(fold, 8, [1, 2, 3]), 0b00000110)
        self.assertEqual(self.check_table(fold, 8, [3, 4, 5]), 0b01010100)

    def test_bits_at_which_the_cut_can_never_be_lit_so(self):
        fold = Fold(2)
        fold.both(2, 4)
        fold.both(3, 6)
        # Knot 4 is never lit: knot 3 is lit only where input 1 is. Its table by these two has a 1 nevertheless.
        self.assertEqual(self.check_table(fold, 4, [1, 3]), 0b0100)
        self.assertEqual(self.check_table(fold, 4, [1, 2]), 0b0000)

    def test_a_knot_of_the_cut_that_nobody_comes_to(self):
        fold = Fold(2)
        fold.both(2, 4)
        fold.both(3, 6)
        self.assertEqual(self.check_table(fold, 4, [1, 2, 3]), 0b01010000)
        fold.both(5, 9)
        self.assertEqual(self.check_table(fold, 5, [2, 4]), 0b0001)
        self.assertEqual(self.check_table(fold, 5, [1, 2, 4]), 0b00000011)
        self.assertEqual(self.check_table(fold, 5, [2, 3, 4]), 0b00000101)
        self.assertEqual(self.check_table(fold, 5, [1, 2, 3, 4]), 0b0000000000110011)

    def test_a_knot_of_the_cut_counts_as_it_is_told_and_not_as_its_ties_are(self):
        fold = Fold(2)
        fold.both(2, 4)
        fold.both(4, 7)
        self.assertEqual(self.check_table(fold, 4, [2, 3]), 0b0010)
        self.assertEqual(self.check_table(fold, 4, [1, 2, 3]), 0b00001100)

    def test_all_cuts_of_small_folds(self):
        for seed in range(8):
            fold = made_fold(2 + seed % 3, 10, f"tables {seed}")
            cones = cone_sets(fold)
            for knot in range(fold.many + 1, 10):
                for cut in small_cuts(fold, knot, 8, cones):
                    self.check_table(fold, knot, cut)

    def test_cuts_of_two_to_eight_knots(self):
        counts = set()
        for many, count, reach in ((3, 30, None), (5, 60, None), (6, 60, 8), (10, 60, 10)):
            chance = random.Random(f"cuts {many}")
            fold = made_fold(many, count, f"cuts {many}", reach)
            lightings = range(0, 2**many, 1 if many < 10 else 9)
            for knot in range(many + 1, count):
                cut = made_cut(fold, knot, chance, 8)
                counts.add(len(cut))
                self.check_table(fold, knot, cut, lightings)
        self.assertEqual(counts, set(range(2, 9)))

    def test_rows_of_inputs(self):
        for many in range(2, 9):
            fold = Fold(many)
            tie = 2
            for knot in range(2, many + 1):
                tie = fold.both(tie, 2 * knot)
            cut = list(range(1, many + 1))
            self.assertEqual(self.check_table(fold, tie // 2, cut), 2 ** (2**many - 1))
            tie = fold.both(tie ^ 1, 3)
            self.assertEqual(self.check_table(fold, tie // 2, cut), sum(2**number for number in range(0, 2**many, 2)))

    def test_long_rows(self):
        row = long_row(2, 1000)
        self.check_table(row, 999, [1, 2])
        self.check_table(row, 999, [1, 2, 300])
        self.check_table(row, 999, [1, 2, 3, 500, 700, 800, 900, 998])
        self.check_table(long_row(3, 950), 949, [1, 2, 3])
        braid = braided_fold(3, 990)
        self.check_table(braid, 989, [2, 3])
        self.check_table(braid, 989, [10, 11])
        self.check_table(braid, 989, [987, 988])
        self.check_table(braid, 989, [2, 3, 4, 5, 6, 7, 8, 9])

    def test_the_same_knots_added_behind(self):
        fold = Fold(2)
        fold.both(2, 4)
        fold.both(3, 5)
        before = table(fold, 4, [1, 2])
        self.assertIs(refusal(table, fold, 5, [3, 4]), NoCut)
        fold.both(7, 9)
        self.assertEqual(table(fold, 4, [1, 2]), before)
        self.assertEqual(self.check_table(fold, 5, [3, 4]), 0b0001)
        self.assertEqual(self.check_table(fold, 5, [1, 2]), 0b0110)


class RefusedTest(unittest.TestCase):
    def check_refused(self, fold, knot, some):
        pairs = fold_pairs(fold)
        handed = list(some)
        with self.subTest(knot=knot, some=some):
            self.assertIs(refusal(table, fold, knot, handed), NoCut)
            self.assertEqual(handed, list(some))
            self.assertEqual(fold_pairs(fold), pairs)

    def test_each_list_that_is_no_cut(self):
        fold = made_fold(3, 8, "refused")
        for count in range(4):
            for some in itertools.product(range(-1, 9), repeat=count):
                for knot in range(-1, 9):
                    if is_cut(fold, knot, list(some)):
                        self.assertIsNone(refusal(table, fold, knot, list(some)))
                    else:
                        self.check_refused(fold, knot, some)

    def test_written_lists(self):
        fold = Fold(3)
        fold.both(2, 4)
        fold.both(6, 8)
        for some in ([], [4], [3], [3, 4, 5], [4, 3], [3, 3, 4], [3, 4, 4], [1, 3], [2, 3], [0, 3, 4], [1, 2, 3, 5]):
            self.check_refused(fold, 5, some)
        for some in ([-1, 3, 4], [3, 4, 6], [3, 4, HUGE], [-HUGE, 3, 4], [6, 8], [1, 2, 3, 3], list(range(1, 2001))):
            self.check_refused(fold, 5, some)

    def test_any_list_of_what_is_no_and_knot(self):
        fold = Fold(3)
        fold.both(2, 4)
        fold.both(6, 8)
        for knot in (0, 1, 2, 3, -1, -5, 6, 7, HUGE, -HUGE):
            for some in ([], [0], [knot], [1], [1, 2], [3, 4], [1, 2, 3], [4, 5], [0, 1, 2, 3, 4, 5], [-1, 6]):
                self.check_refused(fold, knot, some)


if __name__ == "__main__":
    unittest.main()
