import itertools
import unittest

from gatefold.errors import FoldError, NoKnot, NoTie
from gatefold.folds import Fold
from samples import HUGE, braided_fold, fold_pairs, made_fold, tie_truths


class Checks(unittest.TestCase):
    def check_tie(self, told, wanted):
        self.assertIs(type(told), int)
        self.assertEqual(told, wanted)

    def check_both(self, fold, one, other, wanted, added=False):
        """What is told of two ties, in both orders; the first asking alone may add a knot."""
        pairs = fold_pairs(fold)
        if added:
            pairs = pairs + [(min(one, other), max(one, other))]
        with self.subTest(one=one, other=other):
            self.check_tie(fold.both(one, other), wanted)
            self.assertEqual(fold_pairs(fold), pairs)
            self.check_tie(fold.both(other, one), wanted)
            self.check_tie(fold.both(one, other), wanted)
            self.assertEqual(fold_pairs(fold), pairs)

    def check_refused(self, ask, refusal):
        with self.assertRaises(FoldError) as taken:
            ask()
        self.assertIs(type(taken.exception), refusal)


class NewTest(Checks):
    def test_a_new_fold_has_no_and_knots(self):
        for many in range(1, 11):
            fold = Fold(many)
            self.assertIs(type(fold.many), int)
            self.assertEqual(fold.many, many)
            self.assertIs(type(fold.total()), int)
            self.assertEqual(fold.total(), many + 1)
            for knot in range(many + 1):
                self.assertIsNone(fold.pair(knot))
            self.check_refused(lambda: fold.pair(many + 1), NoKnot)

    def test_two_folds_know_nothing_of_each_other(self):
        one, other = Fold(2), Fold(2)
        self.check_tie(one.both(2, 4), 6)
        self.assertEqual(other.total(), 3)
        self.check_tie(other.both(3, 4), 6)
        self.assertEqual(fold_pairs(one), [(2, 4)])
        self.assertEqual(fold_pairs(other), [(3, 4)])


class BothTest(Checks):
    def test_where_one_is_never_lit(self):
        fold = made_fold(3, 8, "never")
        for tie in range(2 * fold.total()):
            self.check_both(fold, 0, tie, 0)

    def test_where_one_is_always_lit(self):
        fold = made_fold(3, 8, "always")
        for tie in range(2 * fold.total()):
            self.check_both(fold, 1, tie, tie)

    def test_of_a_tie_and_itself(self):
        fold = made_fold(3, 8, "itself")
        for tie in range(2 * fold.total()):
            self.check_both(fold, tie, tie, tie)

    def test_of_the_two_ties_of_a_knot(self):
        fold = made_fold(3, 8, "turned")
        for knot in range(fold.total()):
            self.check_both(fold, 2 * knot, 2 * knot + 1, 0)

    def test_neighbours_that_are_ties_of_two_knots(self):
        fold = Fold(3)
        self.check_both(fold, 3, 4, 8, added=True)
        self.check_both(fold, 5, 6, 10, added=True)
        self.check_both(fold, 7, 8, 12, added=True)

    def test_knots_are_added_with_the_next_number(self):
        fold = Fold(2)
        self.check_both(fold, 2, 4, 6, added=True)
        self.check_both(fold, 3, 4, 8, added=True)
        self.check_both(fold, 5, 2, 10, added=True)
        self.check_both(fold, 5, 3, 12, added=True)
        self.check_both(fold, 7, 9, 14, added=True)
        self.check_both(fold, 14, 2, 16, added=True)
        self.assertEqual(fold_pairs(fold), [(2, 4), (3, 4), (2, 5), (3, 5), (7, 9), (2, 14)])
        self.assertEqual(fold.total(), 9)
        self.assertEqual(fold.many, 2)

    def test_knots_that_are_there_are_told_again(self):
        fold = Fold(2)
        for turn in range(3):
            self.check_tie(fold.both(4, 2), 6)
            self.check_tie(fold.both(5, 2), 8)
            self.check_tie(fold.both(7, 9), 10)
            self.assertEqual(fold.total(), 6)

    def test_nothing_more_is_seen_than_the_two_ties(self):
        # Lit nowhere, or where another tie is; the document's cases don't look so deep.
        fold = Fold(2)
        self.check_both(fold, 2, 4, 6, added=True)
        self.check_both(fold, 6, 2, 8, added=True)
        self.check_both(fold, 6, 3, 10, added=True)
        self.check_both(fold, 3, 4, 12, added=True)
        self.check_both(fold, 6, 12, 14, added=True)

    def test_every_two_ties_of_made_folds(self):
        for many, count in ((1, 2), (2, 4), (2, 9), (3, 12), (10, 20)):
            ties = range(2 * count)
            for one, other in itertools.product(ties, ties):
                fold = made_fold(many, count, f"every {many} {count}")
                pairs = fold_pairs(fold)
                key = (min(one, other), max(one, other))
                added = []
                if key[0] == 0 or key in [(tie, tie + 1) for tie in range(0, 2 * count, 2)]:
                    wanted = key[1] if key == (1, 1) else 0
                elif key[0] == 1 or one == other:
                    wanted = key[1]
                elif key in pairs:
                    wanted = 2 * (many + 1 + pairs.index(key))
                else:
                    wanted = 2 * count
                    added = [key]
                with self.subTest(many=many, count=count, one=one, other=other):
                    self.check_tie(fold.both(one, other), wanted)
                    self.assertEqual(fold_pairs(fold), pairs + added)
                    for lighting in range(2**many if many < 4 else 4):
                        truths = tie_truths(fold, lighting)
                        self.assertEqual(truths[wanted], truths[one] and truths[other])

    def test_a_thousand_knots(self):
        for fold in (braided_fold(2, 1000), made_fold(10, 1000, "thousand")):
            self.assertEqual(fold.total(), 1000)
            for number, pair in enumerate(fold_pairs(fold)):
                self.check_tie(fold.both(*pair), 2 * (fold.many + 1 + number))
                self.check_tie(fold.both(pair[1], pair[0]), 2 * (fold.many + 1 + number))
            self.assertEqual(fold.total(), 1000)


class NoTieTest(Checks):
    def test_what_is_no_tie(self):
        for fold in (Fold(1), Fold(10), made_fold(3, 9, "no tie")):
            edge = 2 * fold.total()
            wrong = [-1, -2, -3, -edge, edge, edge + 1, edge + 2, 10 * edge, HUGE, -HUGE]
            right = [0, 1, 2, 3, edge - 2, edge - 1]
            pairs = fold_pairs(fold)
            asked = list(itertools.product(wrong, wrong + right)) + list(itertools.product(right, wrong))
            for one, other in asked:
                with self.subTest(one=one, other=other):
                    self.check_refused(lambda: fold.both(one, other), NoTie)
                    self.assertEqual(fold_pairs(fold), pairs)
                    self.assertEqual(fold.total(), edge // 2)

    def test_a_tie_that_is_there_only_later(self):
        fold = Fold(2)
        for tie in (6, 7):
            self.check_refused(lambda: fold.both(tie, 2), NoTie)
            self.check_refused(lambda: fold.both(0, tie), NoTie)
            self.check_refused(lambda: fold.both(tie, tie), NoTie)
        self.check_refused(lambda: fold.both(6, 7), NoTie)
        self.check_tie(fold.both(2, 4), 6)
        self.check_tie(fold.both(0, 6), 0)
        self.check_tie(fold.both(7, 1), 7)
        self.check_refused(lambda: fold.both(8, 2), NoTie)
        self.check_refused(lambda: fold.both(2, 9), NoTie)
        self.check_tie(fold.both(7, 2), 8)

    def test_a_refused_pair_is_not_kept(self):
        fold = Fold(2)
        self.check_refused(lambda: fold.both(2, 6), NoTie)
        self.check_tie(fold.both(3, 5), 6)
        self.check_tie(fold.both(2, 6), 8)
        self.assertEqual(fold_pairs(fold), [(3, 5), (2, 6)])


class PairTest(Checks):
    def test_of_each_kind_of_knot(self):
        fold = Fold(3)
        fold.both(4, 2)
        fold.both(8, 7)
        fold.both(11, 9)
        for knot in range(4):
            self.assertIsNone(fold.pair(knot))
        told = [fold.pair(knot) for knot in (4, 5, 6)]
        for pair in told:
            self.assertIs(type(pair), tuple)
        self.assertEqual(told, [(2, 4), (7, 8), (9, 11)])
        self.assertEqual(fold.total(), 7)

    def test_what_is_no_knot(self):
        for fold in (Fold(1), Fold(10), made_fold(3, 9, "no knot")):
            total = fold.total()
            for knot in (-1, -2, -total, -total - 1, total, total + 1, 2 * total, HUGE, -HUGE):
                with self.subTest(many=fold.many, knot=knot):
                    self.check_refused(lambda: fold.pair(knot), NoKnot)
                    self.assertEqual(fold.total(), total)

    def test_what_holds_of_every_and_knot(self):
        for fold in (made_fold(2, 40, "holds"), made_fold(10, 900, "holds too"), braided_fold(3, 900)):
            pairs = fold_pairs(fold)
            self.assertEqual(len(set(pairs)), len(pairs))
            for knot, (one, other) in enumerate(pairs, start=fold.many + 1):
                self.assertLess(0, one // 2)
                self.assertLess(one // 2, other // 2)
                self.assertLess(other // 2, knot)


if __name__ == "__main__":
    unittest.main()
