import itertools
import unittest

from gatefold.folding import folded, gate_tie, swept
from gatefold.folds import Fold
from gatefold.nets import Net
from samples import COUNTS, braided_fold, fold_pairs, fresh_name, gate_truth, made_fold, made_net, tie_truths


def both(pairs, many, one, other):
    """What a fold tells of two ties, told apart from the program, by a list of pairs."""
    key = tuple(sorted([one, other]))
    if key[0] < 2:
        return [0, key[1]][key[0]]
    if key[0] // 2 == key[1] // 2:
        return one if one == other else 0
    if key not in pairs:
        pairs.append(key)
    return 2 * (many + 1 + pairs.index(key))


def recipe(pairs, many, word, ties):
    """The tie of a gate by the document's recipe, each step as it stands there."""

    def of(step, some):
        return recipe(pairs, many, step, some)

    if word in ("yes", "no", "not"):
        return {"yes": 1, "no": 0}[word] if word != "not" else ties[0] ^ 1
    if word == "or":
        return of("and", [tie ^ 1 for tie in ties]) ^ 1
    if word in ("and", "either") and len(ties) > 2:
        return of(word, [of(word, ties[:-1]), ties[-1]])
    if word == "and":
        return both(pairs, many, ties[0], ties[1])
    if word == "either":
        u = both(pairs, many, ties[0], ties[1] ^ 1)
        v = both(pairs, many, ties[0] ^ 1, ties[1])
        return of("or", [u, v])
    if word == "choose":
        u = both(pairs, many, ties[0], ties[1])
        v = both(pairs, many, ties[0] ^ 1, ties[2])
        return of("or", [u, v])
    u = both(pairs, many, ties[0], ties[1])
    v = both(pairs, many, ties[0], ties[2])
    w = both(pairs, many, ties[1], ties[2])
    return of("or", [u, v, w])


def cone_of_all(fold, ties):
    """The and-knots that these ties need, told apart from the program."""
    seen = set()
    ahead = [tie // 2 for tie in ties]
    while ahead:
        knot = ahead.pop()
        if knot > fold.many and knot not in seen:
            seen.add(knot)
            ahead += [tie // 2 for tie in fold.pair(knot)]
    return sorted(seen)


class GateTieTest(unittest.TestCase):
    def check_written(self, word, ties, added, tie):
        fold = Fold(6)
        told = gate_tie(fold, word, ties)
        with self.subTest(word, ties=ties):
            self.assertIs(type(told), int)
            self.assertEqual(fold_pairs(fold), added)
            self.assertEqual(told, tie)

    def test_not_yes_and_no(self):
        self.check_written("not", [2], [], 3)
        self.check_written("not", [3], [], 2)
        self.check_written("not", [0], [], 1)
        self.check_written("not", [1], [], 0)
        self.check_written("yes", [], [], 1)
        self.check_written("no", [], [], 0)

    def test_and(self):
        self.check_written("and", [2, 4], [(2, 4)], 14)
        self.check_written("and", [5, 2], [(2, 5)], 14)
        self.check_written("and", [2, 4, 6], [(2, 4), (6, 14)], 16)
        self.check_written("and", [6, 4, 2], [(4, 6), (2, 14)], 16)
        self.check_written("and", [2, 4, 6, 9], [(2, 4), (6, 14), (9, 16)], 18)
        self.check_written("and", [2, 4, 6, 8, 10], [(2, 4), (6, 14), (8, 16), (10, 18)], 20)
        self.check_written("and", [2, 4, 6, 8, 10, 12], [(2, 4), (6, 14), (8, 16), (10, 18), (12, 20)], 22)

    def test_or(self):
        self.check_written("or", [2, 4], [(3, 5)], 15)
        self.check_written("or", [2, 5], [(3, 4)], 15)
        self.check_written("or", [2, 4, 6], [(3, 5), (7, 14)], 17)
        self.check_written("or", [2, 4, 6, 8], [(3, 5), (7, 14), (9, 16)], 19)
        self.check_written("or", [2, 4, 6, 8, 10], [(3, 5), (7, 14), (9, 16), (11, 18)], 21)
        self.check_written("or", [2, 4, 6, 8, 10, 12], [(3, 5), (7, 14), (9, 16), (11, 18), (13, 20)], 23)

    def test_either(self):
        two = [(2, 5), (3, 4), (15, 17)]
        three = two + [(7, 19), (6, 18), (21, 23)]
        four = three + [(9, 25), (8, 24), (27, 29)]
        five = four + [(11, 31), (10, 30), (33, 35)]
        self.check_written("either", [2, 4], two, 19)
        self.check_written("either", [4, 2], [(3, 4), (2, 5), (15, 17)], 19)
        self.check_written("either", [3, 4], [(3, 5), (2, 4), (15, 17)], 19)
        self.check_written("either", [2, 4, 6], three, 25)
        self.check_written("either", [2, 4, 6, 8], four, 31)
        self.check_written("either", [2, 4, 6, 8, 10], five, 37)
        self.check_written("either", [2, 4, 6, 8, 10, 12], five + [(13, 37), (12, 36), (39, 41)], 43)

    def test_choose(self):
        self.check_written("choose", [2, 4, 6], [(2, 4), (3, 6), (15, 17)], 19)
        self.check_written("choose", [6, 2, 5], [(2, 6), (5, 7), (15, 17)], 19)
        self.check_written("choose", [3, 4, 6], [(3, 4), (2, 6), (15, 17)], 19)

    def test_most(self):
        self.check_written("most", [2, 4, 6], [(2, 4), (2, 6), (4, 6), (15, 17), (19, 20)], 23)
        self.check_written("most", [6, 5, 2], [(5, 6), (2, 6), (2, 5), (15, 17), (19, 20)], 23)

    def test_ties_that_are_alike_turned_or_sure(self):
        self.check_written("and", [2, 2], [], 2)
        self.check_written("and", [2, 3, 4], [], 0)
        self.check_written("and", [4, 1, 2], [(2, 4)], 14)
        self.check_written("or", [2, 3], [], 1)
        self.check_written("or", [0, 5], [], 5)
        self.check_written("either", [2, 2], [], 0)
        self.check_written("either", [2, 3], [], 1)
        self.check_written("either", [2, 1], [], 3)
        self.check_written("either", [0, 2], [], 2)
        self.check_written("choose", [1, 4, 6], [], 4)
        self.check_written("choose", [0, 4, 6], [], 6)
        self.check_written("choose", [2, 4, 4], [(2, 4), (3, 4), (15, 17)], 19)
        self.check_written("most", [2, 3, 4], [(2, 4), (3, 4), (15, 17)], 19)
        self.check_written("most", [2, 2, 4], [(2, 4), (3, 15), (15, 16)], 19)

    def check_recipe(self, fold, word, ties):
        pairs = fold_pairs(fold)
        handed = list(ties)
        wanted = recipe(pairs, fold.many, word, ties)
        told = gate_tie(fold, word, handed)
        with self.subTest(word, ties=ties):
            self.assertEqual(handed, list(ties))
            self.assertIs(type(told), int)
            self.assertEqual(told, wanted)
            self.assertEqual(fold_pairs(fold), pairs)
        again = gate_tie(fold, word, handed)
        self.assertEqual((again, fold_pairs(fold)), (told, pairs))
        return told

    def test_every_list_of_two_and_three_ties_of_a_small_fold(self):
        for word, counts in COUNTS.items():
            for count in counts:
                if count > 3:
                    continue
                for ties in itertools.product(range(10), repeat=count):
                    fold = Fold(3)
                    fold.both(2, 5)
                    tie = self.check_recipe(fold, word, list(ties))
                    for lighting in range(8):
                        truths = tie_truths(fold, lighting)
                        self.assertEqual(truths[tie], gate_truth(word, [truths[part] for part in ties]))

    def test_four_to_six_ties_in_rows_of_gates(self):
        made = made_fold(4, 12, "ties")
        for word in ("and", "or", "either"):
            for count in (4, 5, 6):
                for start in range(0, 2 * made.total() - 11):
                    for step in (1, 2, -1, 3):
                        ties = [(start + step * place) % (2 * made.total()) for place in range(count)]
                        fold = made_fold(4, 12, "ties")
                        tie = self.check_recipe(fold, word, ties)
                        for lighting in range(16):
                            truths = tie_truths(fold, lighting)
                            self.assertEqual(truths[tie], gate_truth(word, [truths[part] for part in ties]))

    def test_gates_added_to_one_fold(self):
        inputs, gates, outputs = made_net(5, 60, 1, "one fold")
        fold = Fold(5)
        known = {name: 2 * knot for knot, name in enumerate(inputs, start=1)}
        for name, word, parts in gates:
            known[name] = self.check_recipe(fold, word, [known[part] for part in parts])


class SweptTest(unittest.TestCase):
    def check_swept(self, fold, ties):
        pairs = fold_pairs(fold)
        handed = list(ties)
        told = swept(fold, handed)
        self.assertIs(type(told), tuple)
        clean, moved = told
        self.assertEqual(handed, list(ties))
        self.assertEqual(fold_pairs(fold), pairs)
        self.assertIsInstance(clean, Fold)
        self.assertIsNot(clean, fold)
        self.assertEqual(clean.many, fold.many)
        stay = list(range(fold.many + 1)) + cone_of_all(fold, ties)
        number = {knot: place for place, knot in enumerate(stay)}

        def move(tie):
            return 2 * number[tie // 2] + tie % 2

        wanted = [(move(one), move(other)) for one, other in (fold.pair(knot) for knot in stay[fold.many + 1 :])]
        self.assertEqual(fold_pairs(clean), wanted)
        self.assertIs(type(moved), list)
        self.assertIsNot(moved, handed)
        for tie in moved:
            self.assertIs(type(tie), int)
        self.assertEqual(moved, [move(tie) for tie in ties])
        return clean, moved

    def test_a_written_fold(self):
        fold = Fold(3)
        for one, other in ((2, 4), (3, 6), (5, 7), (9, 12), (10, 12), (8, 15)):
            fold.both(one, other)
        clean, ties = self.check_swept(fold, [15, 6, 14, 1])
        self.assertEqual(fold_pairs(clean), [(2, 4), (5, 7), (9, 10)])
        self.assertEqual(ties, [13, 6, 12, 1])

    def test_each_tie_of_made_folds_alone(self):
        for many, count in ((2, 12), (3, 30), (10, 40)):
            fold = made_fold(many, count, f"alone {many}")
            for tie in range(2 * count):
                with self.subTest(many=many, tie=tie):
                    self.check_swept(fold, [tie])

    def test_every_two_ties_of_a_made_fold(self):
        fold = made_fold(3, 14, "two")
        for one, other in itertools.product(range(28), repeat=2):
            with self.subTest(one=one, other=other):
                self.check_swept(fold, [one, other])

    def test_no_ties(self):
        clean, ties = self.check_swept(made_fold(4, 30, "none"), [])
        self.assertEqual((clean.total(), ties), (5, []))
        clean, ties = self.check_swept(Fold(1), [])
        self.assertEqual((clean.total(), ties), (2, []))

    def test_ties_of_knots_that_are_no_and_knots(self):
        clean, ties = self.check_swept(made_fold(2, 30, "inputs"), [5, 0, 1, 2, 4, 3])
        self.assertEqual((clean.total(), ties), (3, [5, 0, 1, 2, 4, 3]))

    def test_where_every_knot_is_needed(self):
        fold = made_fold(3, 30, "all")
        every = list(range(60))
        self.assertEqual(self.check_swept(fold, every)[1], every)

    def test_ties_more_than_once_and_turned(self):
        fold = made_fold(3, 30, "turned")
        self.check_swept(fold, [59, 41, 58, 41, 40, 59])

    def test_swept_again(self):
        fold = made_fold(3, 50, "again")
        clean, ties = self.check_swept(fold, [60, 77])
        again, same = self.check_swept(clean, ties)
        self.assertEqual((fold_pairs(again), same), (fold_pairs(clean), ties))

    def test_neither_fold_changes_with_the_other(self):
        fold = Fold(2)
        fold.both(2, 4)
        clean, ties = swept(fold, [6])
        fold.both(3, 4)
        self.assertEqual(fold_pairs(clean), [(2, 4)])
        self.assertEqual(clean.both(2, 5), 8)
        self.assertEqual(fold_pairs(fold), [(2, 4), (3, 4)])
        self.assertEqual(fold.both(2, 4), 6)
        self.assertEqual(clean.both(2, 4), 6)
        ties.append(9)
        self.assertEqual(swept(clean, [6])[1], [6])

    def test_the_list_told_is_a_new_one(self):
        fold = made_fold(2, 6, "list")
        handed = [11, 4]
        ties = swept(fold, handed)[1]
        was = list(ties)
        handed.clear()
        self.assertEqual(ties, was)
        ties.clear()
        self.assertEqual(swept(fold, [11, 4])[1], was)

    def test_long_rows_where_many_ways_lead_down(self):
        for many in (2, 7):
            fold = braided_fold(many, 900)
            clean, ties = self.check_swept(fold, [1799])
            self.assertEqual(clean.total(), 900)
            self.check_swept(fold, [1001, 998, 3])
            self.check_swept(fold, list(range(1800)))
        chain = Fold(2)
        for number in range(900 - chain.total()):
            chain.both(2 * chain.total() - 1, 2 + number % 2)
        self.assertEqual(chain.total(), 900)
        self.check_swept(chain, [1798])
        self.check_swept(chain, [901])

    def test_large_made_folds(self):
        for reach in (None, 3, 40):
            fold = made_fold(10, 900, f"large {reach}", reach)
            self.check_swept(fold, [1799, 1500, 77])
            self.check_swept(fold, [1000])


class FoldedTest(unittest.TestCase):
    def check_folded(self, inputs, gates, outputs):
        net = Net(inputs, gates, outputs)
        told = folded(net)
        self.assertIs(type(told), tuple)
        fold, ties = told
        self.assertIsInstance(fold, Fold)
        self.assertEqual(fold.many, len(inputs))
        self.assertIs(type(ties), list)
        pairs = []
        known = {name: 2 * knot for knot, name in enumerate(inputs, start=1)}
        for name, word, parts in gates:
            known[name] = recipe(pairs, len(inputs), word, [known[part] for part in parts])
        whole = Fold(len(inputs))
        for one, other in pairs:
            whole.both(one, other)
        clean, wanted = swept(whole, [known[name] for name in outputs])
        self.assertEqual(fold_pairs(fold), fold_pairs(clean))
        self.assertEqual(ties, wanted)
        self.assertEqual(cone_of_all(fold, ties), list(range(fold.many + 1, fold.total())))
        columns = [0] * len(outputs)
        for lighting in range(2 ** len(inputs)):
            truths = tie_truths(fold, lighting)
            columns = [column + truths[tie] * 2**lighting for column, tie in zip(columns, ties)]
        self.assertEqual(columns, net.columns())
        return fold, ties

    def test_written_nets(self):
        gates = [("s", "either", ["a", "b"]), ("c", "and", ["a", "b"])]
        fold, ties = self.check_folded(["a", "b"], gates, ["s", "c"])
        self.assertEqual(fold_pairs(fold), [(2, 5), (3, 4), (7, 9), (2, 4)])
        self.assertEqual(ties, [11, 12])
        fold, ties = self.check_folded(["a", "b"], gates, ["c"])
        self.assertEqual(fold_pairs(fold), [(2, 4)])
        self.assertEqual(ties, [6])

    def test_outputs_that_are_inputs(self):
        fold, ties = self.check_folded(["a", "b", "c"], [("x", "and", ["a", "b"])], ["c", "a", "b", "c"])
        self.assertEqual((fold.total(), ties), (4, [6, 2, 4, 6]))
        fold, ties = self.check_folded(["a"], [], ["a"])
        self.assertEqual((fold.total(), ties), (2, [2]))
        gates = [("x", "or", ["a", "a"]), ("y", "not", ["b"]), ("z", "and", ["x", "x"])]
        fold, ties = self.check_folded(["a", "b"], gates, ["x", "y", "z"])
        self.assertEqual((fold.total(), ties), (3, [2, 5, 2]))

    def test_outputs_that_are_alike(self):
        gates = [("x", "and", ["a", "b"]), ("y", "and", ["b", "a"]), ("z", "not", ["x"]), ("w", "and", ["x", "y"])]
        fold, ties = self.check_folded(["a", "b"], gates, ["x", "y", "z", "x", "w", "z"])
        self.assertEqual((fold_pairs(fold), ties), ([(2, 4)], [6, 6, 7, 6, 6, 7]))

    def test_outputs_that_are_sure(self):
        gates = [("y", "yes", []), ("n", "no", []), ("p", "either", ["a", "a"]), ("q", "not", ["a"])]
        gates += [("r", "or", ["a", "q"]), ("s", "and", ["y", "r"]), ("t", "choose", ["n", "a", "y"])]
        fold, ties = self.check_folded(["a"], gates, ["y", "n", "p", "r", "s", "t", "q"])
        self.assertEqual((fold.total(), ties), (2, [1, 0, 0, 1, 1, 1, 3]))

    def test_made_nets(self):
        for many in range(1, 11):
            for gate_count in (0, 1, 7, 60):
                for output_count in (1, 5, 16):
                    seed = f"fold {many} {gate_count} {output_count}"
                    with self.subTest(seed):
                        self.check_folded(*made_net(many, gate_count, output_count, seed))

    def test_the_largest_nets(self):
        inputs = list("abcdefghij")
        told = list(inputs)
        gates = []
        for number in range(60):
            parts = [told[-1 - 2 * place] if place < 4 else told[number % len(told)] for place in range(5)]
            gates.append((fresh_name(number), "either", [told[number // 9]] + parts))
            told.append(fresh_name(number))
        fold = self.check_folded(inputs, gates, told[-16:])[0]
        self.assertGreater(fold.total(), 500)

    def test_the_net_stays_and_each_answer_is_a_new_one(self):
        net = Net(["a", "b"], [("x", "either", ["a", "b"])], ["x", "a"])
        fold, ties = folded(net)
        pairs = fold_pairs(fold)
        fold.both(2, 4)
        ties.clear()
        again, same = folded(net)
        self.assertEqual((fold_pairs(again), same), (pairs, [11, 2]))
        self.assertEqual(net.columns(), [6, 10])


if __name__ == "__main__":
    unittest.main()
