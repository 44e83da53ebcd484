import unittest

from gatefold.errors import FoldError, NoTie
from gatefold.folds import Fold
from gatefold.lighting import column, first_unlike, is_lit, knot_columns
from samples import HUGE, braided_fold, fold_pairs, long_row, made_fold, tie_truths


class Checks(unittest.TestCase):
    def check_columns(self, told, wanted):
        self.assertIs(type(told), list)
        for number in told:
            self.assertIs(type(number), int)
        self.assertEqual(told, wanted)

    def check_column(self, told, wanted):
        self.assertIs(type(told), int)
        self.assertEqual(told, wanted)

    def check_refused(self, ask):
        with self.assertRaises(FoldError) as taken:
            ask()
        self.assertIs(type(taken.exception), NoTie)


def tie_columns(fold):
    """The columns of all ties, told apart from the program."""
    rows = [tie_truths(fold, lighting) for lighting in reversed(range(2**fold.many))]
    return [int("".join("01"[truth] for truth in truths), 2) for truths in zip(*rows)]


class LitTest(Checks):
    def test_a_new_fold(self):
        fold = Fold(2)
        wanted = ["0000", "1111", "0101", "1010", "0011", "1100"]
        for tie, signs in enumerate(wanted):
            for lighting, sign in enumerate(signs):
                self.assertIs(is_lit(fold, tie, lighting), sign == "1")
            self.check_column(column(fold, tie), int(signs[::-1], 2))
        self.check_columns(knot_columns(fold), [0, 10, 12])

    def test_written_knots(self):
        fold = Fold(3)
        fold.both(2, 4)
        fold.both(3, 7)
        fold.both(9, 11)
        self.check_columns(knot_columns(fold), [0, 0xAA, 0xCC, 0xF0, 0x88, 0x05, 0x72])
        self.check_column(column(fold, 12), 0x72)
        self.check_column(column(fold, 13), 0x8D)
        self.check_column(column(fold, 8), 0x88)
        self.check_column(column(fold, 9), 0x77)
        self.assertIs(is_lit(fold, 12, 4), True)
        self.assertIs(is_lit(fold, 13, 4), False)
        self.assertIs(is_lit(fold, 12, 3), False)

    def test_inputs_of_one_to_ten(self):
        for many in range(1, 11):
            fold = Fold(many)
            with self.subTest(many=many):
                self.check_columns(knot_columns(fold), tie_columns(fold)[::2])
                self.check_column(column(fold, 0), 0)
                self.check_column(column(fold, 1), 2 ** (2**many) - 1)
                for knot in range(1, many + 1):
                    for place in range(many):
                        self.assertIs(is_lit(fold, 2 * knot, 2**place), place == knot - 1)
                        self.assertIs(is_lit(fold, 2 * knot + 1, 2**place), place != knot - 1)

    def test_every_tie_at_every_lighting_of_small_folds(self):
        for many, count in ((1, 2), (2, 3), (2, 10), (3, 25), (4, 40), (5, 40)):
            fold = made_fold(many, count, f"lit {many} {count}")
            for lighting in range(2**many):
                for tie, truth in enumerate(tie_truths(fold, lighting)):
                    with self.subTest(many=many, tie=tie, lighting=lighting):
                        self.assertIs(is_lit(fold, tie, lighting), truth)

    def test_columns_of_every_tie(self):
        for many, count in ((1, 2), (2, 10), (3, 25), (5, 40), (7, 60), (10, 60)):
            fold = made_fold(many, count, f"columns {many} {count}")
            columns = tie_columns(fold)
            with self.subTest(many=many):
                self.check_columns(knot_columns(fold), columns[::2])
                for tie, wanted in enumerate(columns):
                    self.check_column(column(fold, tie), wanted)

    def test_columns_against_is_lit(self):
        fold = made_fold(4, 50, "against")
        columns = knot_columns(fold)
        self.assertEqual(len(columns), 50)
        for tie in range(100):
            bits = f"{column(fold, tie):016b}"[::-1]
            self.assertEqual(len(bits), 16)
            self.assertEqual([is_lit(fold, tie, lighting) for lighting in range(16)], [bit == "1" for bit in bits])
            self.assertEqual(columns[tie // 2], column(fold, tie) ^ (2**16 - 1 if tie % 2 else 0))

    def test_folds_of_nine_hundred_knots(self):
        folds = [braided_fold(3, 900), braided_fold(10, 900), long_row(4, 900), long_row(10, 900)]
        folds += [made_fold(10, 900, "wide"), made_fold(10, 900, "deep", 4)]
        for fold in folds:
            self.assertEqual(fold.total(), 900)
            columns = tie_columns(fold)
            self.check_columns(knot_columns(fold), columns[::2])
            for tie in (0, 1, 25, 500, 901, 1798, 1799):
                self.check_column(column(fold, tie), columns[tie])
                for lighting in range(0, 2**fold.many, 5):
                    self.assertIs(is_lit(fold, tie, lighting), columns[tie] >> lighting & 1 == 1)

    def test_what_is_no_tie(self):
        for fold in (Fold(1), Fold(10), made_fold(3, 9, "no tie")):
            edge = 2 * fold.total()
            pairs = fold_pairs(fold)
            for tie in (-1, -2, -edge, edge, edge + 1, edge + 2, 10 * edge, HUGE, -HUGE):
                with self.subTest(many=fold.many, tie=tie):
                    self.check_refused(lambda: column(fold, tie))
                    for lighting in (0, 1, 2**fold.many - 1):
                        self.check_refused(lambda: is_lit(fold, tie, lighting))
                    self.assertEqual(fold_pairs(fold), pairs)
            self.check_column(column(fold, edge - 1), tie_columns(fold)[-1])

    def test_the_fold_stays_and_the_lists_are_new(self):
        fold = made_fold(3, 12, "stays")
        pairs = fold_pairs(fold)
        columns = knot_columns(fold)
        was = list(columns)
        column(fold, 23)
        is_lit(fold, 23, 5)
        columns[3] = 1
        columns.clear()
        self.check_columns(knot_columns(fold), was)
        self.assertEqual(fold_pairs(fold), pairs)

    def test_knots_that_are_added_later_are_seen(self):
        fold = Fold(2)
        columns = knot_columns(fold)
        self.check_refused(lambda: column(fold, 6))
        fold.both(2, 4)
        self.assertEqual(columns, [0, 10, 12])
        self.check_columns(knot_columns(fold), [0, 10, 12, 8])
        self.check_column(column(fold, 7), 7)
        self.assertIs(is_lit(fold, 6, 3), True)


class UnlikeTest(unittest.TestCase):
    def check(self, columns, others, wanted):
        for one, other in ((columns, others), (others, columns)):
            one, other = list(one), list(other)
            was = (list(one), list(other))
            told = first_unlike(one, other)
            with self.subTest(one=one, other=other):
                self.assertEqual((one, other), was)
                self.assertEqual(told, wanted)
                self.assertIs(type(told), type(wanted))

    def test_alike(self):
        self.check([], [], None)
        self.check([0], [0], None)
        self.check([5, 0, 7], [5, 0, 7], None)
        self.check([HUGE], [HUGE], None)

    def test_one_place(self):
        for place in range(40):
            self.check([0], [2**place], place)
            self.check([2**50 - 1], [2**50 - 1 - 2**place], place)
            self.check([3, 2**60 + 2**place, 9], [3, 2**60, 9], place)

    def test_several_places(self):
        self.check([0], [6], 1)
        self.check([0b1010], [0b0101], 0)
        self.check([0b11000], [0b00100], 2)
        self.check([1], [2**1024], 0)

    def test_several_pairs(self):
        self.check([4, 2, 8], [0, 0, 0], 1)
        self.check([2, 4], [0, 0], 1)
        self.check([8, 0, 4, 16], [0, 0, 0, 0], 2)
        self.check([0, 0, 0, 1], [16, 8, 4, 0], 0)
        # The same difference in two pairs is still one.
        self.check([4, 4], [0, 0], 2)
        self.check([4, 0], [0, 4], 2)
        self.check([1, 2], [2, 1], 0)

    def test_huge_columns(self):
        every = 2**1024 - 1
        for place in (0, 1, 63, 64, 512, 1022, 1023):
            self.check([every, 0], [every, 2**place], place)
            self.check([every], [every - 2**place], place)
            self.check([2**1023], [every + 1 - 2**place], place if place < 1023 else None)
        self.check([HUGE], [HUGE + 2**700], 700)
        self.check([0] * 2000, [0] * 1999 + [2**1023], 1023)
        self.check([every] * 2000, [every] * 2000, None)

    def test_against_every_lighting(self):
        for one in range(16):
            for other in range(16):
                for third in range(0, 16, 5):
                    unlike = [
                        place for place in range(4) if (one ^ other) >> place & 1 or (third ^ one) >> place & 1
                    ]
                    self.check([one, third], [other, one], unlike[0] if unlike else None)


if __name__ == "__main__":
    unittest.main()
