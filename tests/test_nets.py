import copy
import itertools
import unittest

from gatefold.nets import Net
from samples import COUNTS, fresh_name, lighting_truths, made_net, net_truths


class Checks(unittest.TestCase):
    def check_truths(self, told, wanted):
        self.assertIs(type(told), list)
        for truth in told:
            self.assertIs(type(truth), bool)
        self.assertEqual(told, wanted)

    def check_columns(self, told, wanted):
        self.assertIs(type(told), list)
        for column in told:
            self.assertIs(type(column), int)
        self.assertEqual(told, wanted)

    def check_net(self, inputs, gates, outputs):
        """A net against a second way to tell it, at every lighting, by `told` and by `columns`."""
        net = Net(inputs, gates, outputs)
        many = len(inputs)
        wanted = [0] * len(outputs)
        for lighting in range(2**many):
            truths = lighting_truths(lighting, many)
            answers = net_truths(inputs, gates, outputs, truths)
            self.check_truths(net.told(truths), answers)
            wanted = [column + answer * 2**lighting for column, answer in zip(wanted, answers)]
        self.check_columns(net.columns(), wanted)


class ToldTest(Checks):
    def test_one_input_and_no_gate(self):
        net = Net(["a"], [], ["a"])
        self.check_truths(net.told([False]), [False])
        self.check_truths(net.told([True]), [True])

    def test_the_order_of_inputs_and_of_outputs(self):
        net = Net(["b", "a"], [("x", "choose", ["a", "b", "a"])], ["x", "a", "b", "a"])
        self.check_truths(net.told([True, False]), [False, False, True, False])
        self.check_truths(net.told([False, True]), [False, True, False, True])
        self.check_truths(net.told([True, True]), [True, True, True, True])

    def test_the_order_of_parts(self):
        net = Net(["a", "b", "c"], [("x", "choose", ["c", "a", "b"])], ["x"])
        self.check_truths(net.told([True, False, True]), [True])
        self.check_truths(net.told([True, False, False]), [False])
        self.check_truths(net.told([False, True, False]), [True])
        self.check_truths(net.told([False, True, True]), [False])

    def test_sixteen_outputs_some_alike(self):
        outputs = ["x", "a", "x", "b", "b", "x", "a", "x", "x", "y", "a", "a", "y", "b", "x", "y"]
        net = Net(["a", "b"], [("x", "and", ["a", "b"]), ("y", "no", [])], outputs)
        lit = {"x": False, "a": False, "b": True, "y": False}
        self.check_truths(net.told([False, True]), [lit[name] for name in outputs])
        lit = {"x": True, "a": True, "b": True, "y": False}
        self.check_truths(net.told([True, True]), [lit[name] for name in outputs])

    def test_a_name_more_than_once_among_the_parts(self):
        gates = [
            ("u", "and", ["a", "a"]),
            ("v", "or", ["a", "a", "a"]),
            ("w", "either", ["a", "a"]),
            ("x", "either", ["a", "b", "a", "a"]),
            ("y", "most", ["a", "b", "a"]),
            ("z", "choose", ["a", "b", "a"]),
        ]
        net = Net(["a", "b"], gates, ["u", "v", "w", "x", "y", "z"])
        self.check_truths(net.told([False, False]), [False, False, False, False, False, False])
        self.check_truths(net.told([True, False]), [True, True, False, True, True, False])
        self.check_truths(net.told([False, True]), [False, False, False, True, False, False])
        self.check_truths(net.told([True, True]), [True, True, False, False, True, True])

    def test_sixty_gates_in_a_row(self):
        gates = []
        ahead = "a"
        for number in range(60):
            gates.append((fresh_name(number), "not", [ahead]))
            ahead = fresh_name(number)
        net = Net(["a"], gates, [fresh_name(58), fresh_name(59)])
        self.check_truths(net.told([True]), [False, True])
        self.check_truths(net.told([False]), [True, False])

    def test_sixty_gates_that_double_the_ways(self):
        gates = []
        ahead = "a"
        for number in range(60):
            gates.append((fresh_name(number), "and", [ahead] * 6))
            ahead = fresh_name(number)
        net = Net(["a"], gates, [ahead])
        self.check_truths(net.told([True]), [True])
        self.check_truths(net.told([False]), [False])

    def test_ten_inputs(self):
        inputs = list("abcdefghij")
        net = Net(inputs, [], inputs)
        for place in range(10):
            truths = [number == place for number in range(10)]
            self.check_truths(net.told(truths), truths)

    def test_asked_at_two_lightings_by_turns(self):
        net = Net(["a", "b"], [("x", "and", ["a", "b"]), ("y", "not", ["x"])], ["y", "x"])
        for turn in range(3):
            self.check_truths(net.told([True, True]), [False, True])
            self.check_truths(net.told([True, False]), [True, False])

    def test_two_nets_by_turns(self):
        one = Net(["a", "b"], [("x", "and", ["a", "b"])], ["x"])
        other = Net(["b", "a"], [("x", "either", ["a", "b"])], ["x", "a"])
        for turn in range(3):
            self.check_truths(one.told([True, True]), [True])
            self.check_truths(other.told([True, False]), [True, False])
            self.check_columns(one.columns(), [8])
            self.check_columns(other.columns(), [6, 12])


class KeptTest(Checks):
    def test_what_the_net_was_made_of_is_changed_behind(self):
        inputs, outputs = ["a", "b"], ["y", "x", "a"]
        first, second = ["a", "b"], ["x", "b"]
        gates = [("x", "and", first), ("y", "either", second)]
        changes = [
            lambda: inputs.reverse(),
            lambda: inputs.clear(),
            lambda: outputs.append("b"),
            lambda: outputs.clear(),
            lambda: first.append("a"),
            lambda: first.clear(),
            lambda: second.reverse(),
            lambda: second.clear(),
            lambda: gates.reverse(),
            lambda: gates.__setitem__(0, ("x", "no", [])),
            lambda: gates.clear(),
        ]
        net = Net(inputs, gates, outputs)
        for change in changes:
            change()
            self.check_truths(net.told([False, True]), [True, False, False])
            self.check_truths(net.told([True, True]), [False, True, True])
            self.check_columns(net.columns(), [4, 8, 10])

    def test_parts_that_two_gates_share_are_changed_behind(self):
        parts = ["a", "b"]
        net = Net(["a", "b"], [("x", "and", parts), ("y", "or", parts)], ["x", "y"])
        parts[1] = "a"
        self.check_truths(net.told([True, False]), [False, True])
        self.check_columns(net.columns(), [8, 14])

    def test_nothing_handed_in_is_changed(self):
        handed = made_net(4, 20, 5, "kept")
        was = copy.deepcopy(handed)
        net = Net(*handed)
        truths = [True, False, False, True]
        net.told(truths)
        net.columns()
        self.assertEqual(handed, was)
        self.assertEqual(truths, [True, False, False, True])

    def test_a_list_of_truths_that_was_told_is_changed(self):
        net = Net(["a", "b"], [("x", "or", ["a", "b"])], ["x", "a"])
        truths = [False, True]
        told = net.told(truths)
        self.assertIsNot(told, truths)
        told[0] = False
        told.append(True)
        self.check_truths(net.told(truths), [True, False])
        self.assertEqual(told, [False, False, True])

    def test_truths_of_a_net_without_gates_are_a_new_list(self):
        net = Net(["a", "b"], [], ["a", "b"])
        truths = [False, True]
        told = net.told(truths)
        told.reverse()
        self.assertEqual(truths, [False, True])
        truths.clear()
        self.assertEqual(told, [True, False])

    def test_a_list_of_columns_that_was_told_is_changed(self):
        net = Net(["a", "b"], [("x", "or", ["a", "b"])], ["x", "a"])
        told = net.columns()
        told[0] = 0
        told.append(5)
        again = net.columns()
        self.check_columns(again, [14, 10])
        net.told([True, True])
        net.columns().clear()
        self.assertEqual(again, [14, 10])
        self.assertEqual(told, [0, 10, 5])


class ColumnsTest(Checks):
    def test_inputs_and_each_word_of_two_inputs(self):
        gates = [
            ("p", "and", ["a", "b"]),
            ("q", "or", ["a", "b"]),
            ("r", "either", ["a", "b"]),
            ("s", "not", ["a"]),
            ("t", "yes", []),
            ("u", "no", []),
        ]
        net = Net(["a", "b"], gates, ["a", "b", "p", "q", "r", "s", "t", "u"])
        self.check_columns(net.columns(), [10, 12, 8, 14, 6, 5, 15, 0])

    def test_choose_and_most_of_three_inputs(self):
        gates = [("p", "choose", ["a", "b", "c"]), ("q", "most", ["a", "b", "c"])]
        net = Net(["a", "b", "c"], gates, ["p", "q", "a", "b", "c"])
        self.check_columns(net.columns(), [0b11011000, 0b11101000, 0b10101010, 0b11001100, 0b11110000])

    def test_yes_and_no_for_one_to_ten_inputs(self):
        for many in range(1, 11):
            inputs = [fresh_name(number) for number in range(many)]
            gates = [("y", "yes", []), ("n", "no", []), ("t", "not", ["y"]), ("u", "not", ["n"])]
            with self.subTest(many=many):
                net = Net(inputs, gates, ["y", "n", "t", "u"])
                every = 2 ** (2**many) - 1
                self.check_columns(net.columns(), [every, 0, 0, every])
                self.check_truths(net.told([False] * many), [True, False, False, True])

    def test_inputs_alone_for_one_to_ten_inputs(self):
        for many in range(1, 11):
            inputs = [fresh_name(number) for number in range(many)]
            with self.subTest(many=many):
                self.check_net(inputs, [], inputs)

    def test_each_word_with_each_number_of_parts(self):
        inputs = list("abcdef")
        for word, counts in COUNTS.items():
            for count in counts:
                with self.subTest(word, count=count):
                    self.check_net(inputs, [("x", word, inputs[:count])], ["x"])

    def test_each_list_of_parts_of_three(self):
        for word in ("choose", "most", "either"):
            for parts in itertools.product("abc", repeat=3):
                with self.subTest(word, parts=parts):
                    self.check_net(["a", "b", "c"], [("x", word, list(parts))], ["x"])

    def test_made_nets_of_one_to_ten_inputs(self):
        for many in range(1, 11):
            for gate_count in (0, 1, 7, 60):
                for output_count in (1, 5, 16):
                    seed = f"{many} {gate_count} {output_count}"
                    with self.subTest(seed):
                        self.check_net(*made_net(many, gate_count, output_count, seed))


if __name__ == "__main__":
    unittest.main()
