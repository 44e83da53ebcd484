import copy
import unittest

from gatefold.errors import NoKnot, NoSize
from gatefold.folding import folded
from gatefold.folds import Fold
from gatefold.labels import Labels
from gatefold.nets import Net
from samples import (
    HUGE,
    WRONG_SIZES,
    braided_fold,
    cone_sets,
    cut_truth,
    fold_pairs,
    long_row,
    lower_knots,
    made_fold,
    made_net,
    merged_labels,
    refusal,
    round_row,
    small_cuts,
    wide_braid,
)

SIZES = range(2, 7)


def least_labels(fold, size):
    """The labels by all cuts of at most `size` knots, told apart from the program."""
    cones = cone_sets(fold)
    labels = [0] * (fold.many + 1)
    for knot in range(fold.many + 1, fold.total()):
        cuts = small_cuts(fold, knot, size, cones)
        labels.append(1 + min(max(labels[lower] for lower in cut) for cut in cuts))
    return labels


class Checks(unittest.TestCase):
    def check_cut(self, fold, labels, knot, size, cones):
        cut = labels.cut(knot)
        self.assertIs(type(cut), list)
        for lower in cut:
            self.assertIs(type(lower), int)
        self.assertLessEqual(len(cut), size)
        self.assertTrue(cut_truth(fold, knot, cut, cones))
        self.assertEqual(max(labels.label(lower) for lower in cut), labels.label(knot) - 1)

    def check_way(self, fold, labels, knot, way, cones):
        self.assertIs(type(way), list)
        for lower in way:
            self.assertIs(type(lower), int)
            self.assertLessEqual(labels.label(lower), labels.label(knot) - 2)
        self.assertIn(way[0], range(1, fold.many + 1))
        for one, other in zip(way, way[1:]):
            self.assertIn(one, lower_knots(fold, other))
        ends = [end for end in cones[knot] if labels.label(end) >= labels.label(knot) - 1]
        self.assertTrue(any(way[-1] in lower_knots(fold, end) for end in ends))

    def check_ways(self, fold, labels, knot, size, cones):
        ways = labels.ways(knot)
        self.assertIs(type(ways), list)
        if labels.label(knot) == 1:
            self.assertEqual(ways, [])
            return
        self.assertEqual(len(ways), size + 1)
        self.assertEqual(ways, sorted(ways))
        for way in ways:
            self.check_way(fold, labels, knot, way, cones)
        told = [lower for way in ways for lower in way]
        self.assertEqual(len(told), len(set(told)))

    def check_labels(self, fold, size):
        """What is told proves itself: the cuts that the labels can be had, the ways that there are no lesser ones."""
        pairs = fold_pairs(fold)
        labels = Labels(fold, size)
        self.assertEqual(fold_pairs(fold), pairs)
        cones = cone_sets(fold)
        told = [labels.label(knot) for knot in range(fold.total())]
        for label in told:
            self.assertIs(type(label), int)
        self.assertEqual(told[: fold.many + 1], [0] * (fold.many + 1))
        for knot in range(fold.many + 1, fold.total()):
            with self.subTest(size=size, knot=knot):
                self.check_cut(fold, labels, knot, size, cones)
                self.check_ways(fold, labels, knot, size, cones)
        return told


class LabelTest(Checks):
    def test_folds_without_and_knots(self):
        for many in range(1, 11):
            for size in SIZES:
                self.assertEqual(self.check_labels(Fold(many), size), [0] * (many + 1))

    def test_one_and_knot(self):
        fold = Fold(2)
        fold.both(2, 5)
        for size in SIZES:
            self.assertEqual(self.check_labels(fold, size), [0, 0, 0, 1])
            labels = Labels(fold, size)
            self.assertEqual((labels.cut(3), labels.ways(3)), ([1, 2], []))

    def test_rows_of_inputs(self):
        fold = Fold(10)
        tie = 2
        for knot in range(2, 11):
            tie = fold.both(tie, 2 * knot)
        # Each further piece takes in one input fewer than `size`: its last one is the piece ahead of it.
        for size in SIZES:
            wanted = [-(-count // (size - 1)) for count in range(1, 10)]
            self.assertEqual(self.check_labels(fold, size)[11:], wanted)

    def test_written_labels(self):
        fold = Fold(4)
        for one, other in ((2, 4), (6, 8), (10, 12), (3, 14), (15, 17)):
            fold.both(one, other)
        self.assertEqual(self.check_labels(fold, 2), [0] * 5 + [1, 1, 2, 3, 3])
        self.assertEqual(self.check_labels(fold, 3), [0] * 5 + [1, 1, 2, 2, 2])
        for size in (4, 5, 6):
            self.assertEqual(self.check_labels(fold, size), [0] * 5 + [1] * 5)
        labels = Labels(fold, 3)
        self.assertEqual(labels.cut(9), [1, 5, 6])
        self.assertEqual(labels.ways(7), [[1], [2], [3], [4]])

    def test_a_cut_that_is_found_only_below_the_greatest_labels(self):
        # Two knots of label 2 with the same two knots below them: what lies on both is had by these.
        fold = Fold(4)
        for one, other in ((2, 4), (6, 8), (10, 13), (11, 12), (15, 17)):
            fold.both(one, other)
        self.assertEqual(self.check_labels(fold, 2), [0] * 5 + [1, 1, 2, 2, 2])
        self.assertEqual(Labels(fold, 2).cut(9), [5, 6])

    def test_small_folds_against_all_cuts(self):
        for seed in range(60):
            many = 2 + seed % 6
            fold = made_fold(many, many + 9, f"labels {seed}", [None, many + 1, many + 4][seed % 3])
            for size in SIZES:
                self.assertEqual(self.check_labels(fold, size), least_labels(fold, size))

    def test_small_folds_of_many_inputs(self):
        deepest = [0] * 7
        for seed in range(30):
            fold = made_fold(10, 50, f"many {seed}", 14 + seed % 8)
            for size in SIZES:
                told = self.check_labels(fold, size)
                self.assertEqual(told, merged_labels(fold, size))
                deepest[size] = max([deepest[size], *told])
        self.assertGreaterEqual(min(deepest[2:]), 3)

    def test_rows_where_small_sizes_go_deep(self):
        for many in (3, 4, 5):
            fold = wide_braid(many, many + 14)
            for size in (2, 3, 4):
                self.assertEqual(self.check_labels(fold, size), least_labels(fold, size))

    def test_made_folds_of_a_hundred_knots(self):
        for many, reach in ((3, None), (7, None), (8, 12), (10, 15), (10, 40)):
            fold = made_fold(many, 110, f"hundred {many}", reach)
            for size in SIZES:
                told = self.check_labels(fold, size)
                if size <= 3:
                    self.assertEqual(told, merged_labels(fold, size))
                if size >= many:
                    self.assertEqual(max(told), 1)

    def test_folded_nets(self):
        for number in range(6):
            fold = folded(Net(*made_net(5 + number, 40, 6, f"nets {number}")))[0]
            for size in (2, 4, 6):
                self.check_labels(fold, size)

    def test_the_greatest_label_falls_and_never_rises_with_the_size(self):
        fold = made_fold(9, 150, "sizes", 30)
        rows = [self.check_labels(fold, size) for size in SIZES]
        for one, other in zip(rows, rows[1:]):
            self.assertTrue(all(greater >= less for greater, less in zip(one, other)))
            self.assertNotEqual(one, other)

    def test_rows_of_several_hundred_knots(self):
        for fold in (round_row(10, 400), wide_braid(8, 400), made_fold(10, 400, "several", 20)):
            for size in (2, 6):
                self.assertGreater(max(self.check_labels(fold, size)), 30 if size == 2 else 1)

    def test_rows_of_nearly_a_thousand_knots(self):
        self.assertEqual(max(self.check_labels(long_row(2, 1000), 2)), 1)
        self.assertEqual(max(self.check_labels(braided_fold(3, 1000), 3)), 1)
        fold = made_fold(10, 1000, "thousand", 40)
        labels = Labels(fold, 5)
        cones = cone_sets(fold)
        self.assertGreater(labels.label(999), 20)
        for knot in (11, 300, 640, 998, 999):
            self.check_cut(fold, labels, knot, 5, cones)
            self.check_ways(fold, labels, knot, 5, cones)


class RefusedTest(Checks):
    def test_sizes_that_are_none(self):
        fold = made_fold(3, 12, "size")
        pairs = fold_pairs(fold)
        for size in [*WRONG_SIZES, fold, Labels, object()]:
            with self.subTest(size=size):
                self.assertIs(refusal(Labels, fold, size), NoSize)
                self.assertIs(refusal(Labels, Fold(1), size), NoSize)
        self.assertEqual(fold_pairs(fold), pairs)

    def test_what_is_no_knot(self):
        for fold in (Fold(1), Fold(10), made_fold(3, 30, "knots")):
            total = fold.total()
            labels = Labels(fold, 3)
            for knot in (-1, -2, -total, -total - 1, total, total + 1, 2 * total, HUGE, -HUGE):
                for ask in (labels.label, labels.cut, labels.ways):
                    with self.subTest(total=total, knot=knot):
                        self.assertIs(refusal(ask, knot), NoKnot)

    def test_knot_0_and_inputs_have_no_cut_and_no_ways(self):
        for many in range(1, 11):
            fold = Fold(many) if many == 1 else made_fold(many, 20, f"no cut {many}")
            labels = Labels(fold, 4)
            for knot in range(many + 1):
                self.assertEqual(labels.label(knot), 0)
                self.assertIs(refusal(labels.cut, knot), NoKnot)
                self.assertIs(refusal(labels.ways, knot), NoKnot)


class KeptTest(Checks):
    def told(self, labels, fold, total):
        knots = range(fold.many + 1, total)
        rows = [[labels.label(knot) for knot in range(total)]]
        rows += [[labels.cut(knot) for knot in knots], [labels.ways(knot) for knot in knots]]
        # A copy: lists that were not the asker's own would change with what they are held against.
        return copy.deepcopy(rows)

    def test_and_knots_added_behind(self):
        fold = made_fold(6, 60, "behind", 12)
        labels = Labels(fold, 3)
        other = Labels(made_fold(6, 60, "behind", 12), 3)
        wanted = self.told(other, fold, 60)
        for number in range(30):
            fold.both(2 * fold.total() - 1, 2 * (number % 6 + 1))
        self.assertEqual(fold.total(), 90)
        self.assertEqual(self.told(labels, fold, 60), wanted)
        for knot in (60, 61, 89, 90, -1):
            for ask in (labels.label, labels.cut, labels.ways):
                self.assertIs(refusal(ask, knot), NoKnot)
        self.assertEqual(self.told(labels, fold, 60), wanted)
        self.assertEqual(Labels(fold, 3).label(59), wanted[0][59])

    def test_a_first_and_knot_added_behind(self):
        fold = Fold(2)
        labels = Labels(fold, 2)
        fold.both(2, 4)
        for ask in (labels.label, labels.cut, labels.ways):
            self.assertIs(refusal(ask, 3), NoKnot)
        self.assertEqual(Labels(fold, 2).label(3), 1)

    def test_the_lists_told_are_the_askers_own(self):
        fold = made_fold(6, 40, "own", 10)
        labels = Labels(fold, 2)
        wanted = self.told(labels, fold, 40)
        for knot in range(7, 40):
            labels.cut(knot).append(99)
            labels.cut(knot).clear()
            ways = labels.ways(knot)
            for way in ways:
                way.append(99)
                way[0] = 77
            ways.append([1])
            labels.ways(knot).clear()
        self.assertEqual(self.told(labels, fold, 40), wanted)
        self.assertGreater(max(wanted[0]), 3)

    def test_two_labels_of_one_fold(self):
        fold = made_fold(5, 40, "two", 10)
        two = Labels(fold, 2)
        wanted = self.told(two, fold, 40)
        six = Labels(fold, 6)
        self.assertEqual(max(six.label(knot) for knot in range(40)), 1)
        self.assertEqual(self.told(two, fold, 40), wanted)


if __name__ == "__main__":
    unittest.main()
