import itertools
import random
import unittest

from gatefold.cones import cone, is_cut
from gatefold.errors import NoKnot
from gatefold.folds import Fold
from samples import (
    HUGE,
    braided_fold,
    cone_sets,
    cut_truth,
    fold_pairs,
    long_row,
    lower_knots,
    made_cut,
    made_fold,
    refusal,
)


def written_fold():
    """Knots 4 = (1, 2), 5 = (2, 3), 6 = (4, 5), 7 = (1, 6), 8 = (3, 4); what is turned doesn't matter here."""
    fold = Fold(3)
    for one, other in ((2, 4), (5, 7), (9, 10), (3, 12), (6, 8)):
        fold.both(one, other)
    return fold


class ConeTest(unittest.TestCase):
    def check_cone(self, fold, knot, wanted):
        pairs = fold_pairs(fold)
        told = cone(fold, knot)
        self.assertIs(type(told), list)
        for number in told:
            self.assertIs(type(number), int)
        self.assertEqual(told, sorted(wanted))
        self.assertEqual(fold_pairs(fold), pairs)

    def test_knot_0_and_inputs(self):
        for many in range(1, 11):
            fold = Fold(many) if many == 1 else made_fold(many, 30, f"inputs {many}")
            for knot in range(many + 1):
                self.check_cone(fold, knot, [knot])

    def test_written_knots(self):
        fold = written_fold()
        self.check_cone(fold, 4, [1, 2, 4])
        self.check_cone(fold, 5, [2, 3, 5])
        self.check_cone(fold, 6, [1, 2, 3, 4, 5, 6])
        self.check_cone(fold, 7, [1, 2, 3, 4, 5, 6, 7])
        self.check_cone(fold, 8, [1, 2, 3, 4, 8])

    def test_made_folds(self):
        for many, count, reach in ((2, 20, None), (3, 60, None), (5, 60, 4), (10, 120, 20), (10, 200, None)):
            fold = made_fold(many, count, f"cones {many}", reach)
            cones = cone_sets(fold)
            for knot in range(count):
                with self.subTest(many=many, knot=knot):
                    self.check_cone(fold, knot, cones[knot])

    def test_long_rows(self):
        for fold in (long_row(2, 1000), long_row(10, 950), braided_fold(3, 1000), made_fold(10, 1000, "long", 5)):
            cones = cone_sets(fold)
            for knot in (0, 1, 11, 400, 899, fold.total() - 2, fold.total() - 1):
                self.check_cone(fold, knot, cones[knot])
        self.check_cone(braided_fold(2, 980), 979, range(1, 980))

    def test_what_is_no_knot_is_refused(self):
        for fold in (Fold(1), Fold(10), written_fold(), long_row(3, 900)):
            total = fold.total()
            for knot in (-1, -2, -total, -total - 1, total, total + 1, 2 * total, HUGE, -HUGE):
                with self.subTest(total=total, knot=knot):
                    self.assertIs(refusal(cone, fold, knot), NoKnot)

    def test_each_list_is_the_askers_own(self):
        fold = written_fold()
        for knot in (0, 2, 4, 7):
            first = cone(fold, knot)
            second = cone(fold, knot)
            was = list(first)
            first.append(99)
            first[0] = 77
            self.assertEqual(second, was)
            self.assertEqual(cone(fold, knot), was)

    def test_knots_added_behind(self):
        fold = written_fold()
        told = cone(fold, 7)
        self.assertIs(refusal(cone, fold, 9), NoKnot)
        fold.both(14, 17)
        self.assertEqual(told, [1, 2, 3, 4, 5, 6, 7])
        self.check_cone(fold, 7, told)
        self.check_cone(fold, 9, range(1, 10))


class IsCutTest(unittest.TestCase):
    def check_cut(self, fold, knot, some, wanted):
        handed = list(some)
        with self.subTest(knot=knot, some=some):
            self.assertIs(is_cut(fold, knot, handed), wanted)
            self.assertEqual(handed, list(some))

    def test_written_cuts(self):
        fold = written_fold()
        pairs = fold_pairs(fold)
        for knot, some in (
            (4, [1, 2]),
            (6, [4, 5]),
            (6, [1, 2, 5]),
            (6, [2, 3, 4]),
            (6, [1, 2, 3]),
            (6, [2, 4, 5]),
            (6, [1, 2, 3, 4, 5]),
            (7, [1, 6]),
            (7, [1, 4, 5]),
            (7, [1, 2, 3]),
            (7, [1, 2, 6]),
            (8, [3, 4]),
            (8, [1, 2, 3]),
        ):
            self.check_cut(fold, knot, some, True)
        for knot, some in (
            (4, []),
            (4, [1]),
            (4, [2]),
            (4, [2, 1]),
            (4, [1, 1, 2]),
            (4, [1, 2, 2]),
            (4, [1, 2, 3]),
            (4, [0, 1, 2]),
            (4, [1, 2, 4]),
            (4, [4]),
            (4, [1, 2, 5]),
            (4, [-1, 1, 2]),
            (4, [1, 2, 9]),
            (4, [1, 2, HUGE]),
            (4, [-HUGE, 1, 2]),
            (6, [4]),
            (6, [1, 5]),
            (6, [3, 4]),
            (6, [5, 4]),
            (6, [1, 2, 3, 6]),
            (7, [4, 5]),
            (7, [6]),
            (7, [1, 6, 8]),
            (7, [6, 1]),
            (8, [3, 4, 5]),
        ):
            self.check_cut(fold, knot, some, False)
        self.assertEqual(fold_pairs(fold), pairs)

    def test_of_what_is_no_and_knot(self):
        fold = written_fold()
        for knot in (0, 1, 2, 3, -1, -2, -9, 9, 10, 99, HUGE, -HUGE):
            for some in ([], [0], [1], [knot], [1, 2], [1, 2, 3], [0, 1, 2, 3], [0, 1], [4, 5], [8], [-1], [9]):
                self.check_cut(fold, knot, some, False)

    def test_all_rising_lists_of_small_folds(self):
        for seed in range(4):
            fold = made_fold(2 + seed % 2, 9, f"rising {seed}")
            cones = cone_sets(fold)
            for count in range(5):
                for some in itertools.combinations(range(-1, 10), count):
                    for knot in range(-1, 10):
                        self.check_cut(fold, knot, list(some), cut_truth(fold, knot, list(some), cones))

    def test_all_lists_of_three_numbers_of_a_small_fold(self):
        fold = made_fold(3, 8, "lists")
        cones = cone_sets(fold)
        for some in itertools.product(range(-1, 9), repeat=3):
            for knot in range(3, 9):
                self.check_cut(fold, knot, list(some), cut_truth(fold, knot, list(some), cones))

    def test_every_list_of_one_knot_is_none(self):
        fold = made_fold(2, 40, "one")
        for knot in range(40):
            for lower in range(40):
                self.check_cut(fold, knot, [lower], False)

    def check_near(self, fold, knot, cut, chance):
        """A cut, and lists that are nearly that cut."""
        cones = cone_sets(fold)
        self.check_cut(fold, knot, cut, True)
        for place in range(len(cut)):
            fewer = cut[:place] + cut[place + 1 :]
            self.check_cut(fold, knot, fewer, cut_truth(fold, knot, fewer, cones))
            self.check_cut(fold, knot, cut[: place + 1] + cut[place:], False)
            about = list(cut)
            about[place - 1], about[place] = about[place], about[place - 1]
            self.check_cut(fold, knot, about, False)
        within = sorted(cones[knot] - {knot, *cut})
        if within:
            self.check_cut(fold, knot, sorted([*cut, chance.choice(within)]), True)
        outside = sorted(set(range(fold.total())) - cones[knot])
        for other in (chance.choice(outside), knot, -1, fold.total(), HUGE, -HUGE):
            self.check_cut(fold, knot, sorted([*cut, other]), False)

    def test_made_cuts_and_lists_that_are_near(self):
        for many, count, reach in ((2, 30, None), (4, 60, None), (10, 80, 12)):
            chance = random.Random(f"near {many}")
            fold = made_fold(many, count, f"near {many}", reach)
            for knot in range(many + 1, count):
                self.check_near(fold, knot, made_cut(fold, knot, chance, 12), chance)

    def test_a_cut_must_stop_whoever_goes_by_the_longer_way(self):
        fold = Fold(3)
        for one, other in ((2, 4), (6, 8), (8, 11), (7, 13)):
            fold.both(one, other)
        # Knot 6 has knots 4 and 5, and knot 5 has input 3 and knot 4.
        self.check_cut(fold, 6, [3, 4], True)
        self.check_cut(fold, 6, [4], False)
        self.check_cut(fold, 6, [1, 2, 5], True)
        self.check_cut(fold, 6, [1, 5], False)
        self.check_cut(fold, 6, [4, 5], True)
        self.check_cut(fold, 7, [3, 4], True)
        self.check_cut(fold, 7, [4, 5], False)
        self.check_cut(fold, 7, [3, 4, 5], True)

    def test_long_rows(self):
        row = long_row(2, 1000)
        for some, wanted in (
            ([1, 2], True),
            ([2], False),
            ([1], False),
            ([1, 2, 500], True),
            ([1, 500], False),
            ([1, 2, 999], False),
            ([1, 2, 998], True),
            (list(range(1, 999)), True),
            (list(range(1, 1000)), False),
            (list(range(0, 999)), False),
            (list(range(998, 0, -1)), False),
        ):
            self.check_cut(row, 999, some, wanted)
        braid = braided_fold(3, 990)
        for some, wanted in (
            ([2, 3], True),
            ([1, 2, 3], False),
            ([3], False),
            ([500, 501], True),
            ([500, 502], False),
            ([500, 502, 503], True),
            ([499, 502], False),
            ([987, 988], True),
            ([986, 987], True),
            ([986, 988], False),
        ):
            self.check_cut(braid, 989, some, wanted)

    def test_long_lists(self):
        fold = made_fold(10, 600, "long lists", 30)
        self.assertTrue(len(cone(fold, 599)) > 300)
        inner = cone(fold, 599)[:-1]
        self.check_cut(fold, 599, inner, True)
        self.check_cut(fold, 599, inner + [599], False)
        self.check_cut(fold, 599, inner[::-1], False)
        self.check_cut(fold, 599, [1] * 2000, False)
        self.check_cut(fold, 599, list(range(2000)), False)
        self.check_cut(fold, 599, lower_knots(fold, 599), True)

    def test_knots_added_behind(self):
        fold = written_fold()
        self.check_cut(fold, 9, [7, 8], False)
        fold.both(14, 17)
        self.check_cut(fold, 9, [7, 8], True)
        self.check_cut(fold, 7, [1, 6], True)


if __name__ == "__main__":
    unittest.main()
