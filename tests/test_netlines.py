import copy
import unittest

from gatefold.errors import FoldError, NoLine, NoName
from gatefold.netlines import net_of, words, written
from gatefold.nets import Net
from samples import COUNTS, KEPT_WORDS, WRONG_SIGNS, fresh_name, made_net

LETTERS = "abcdefghijklmnopqrstuvwxyz"


class WordsTest(unittest.TestCase):
    def check(self, text, wanted):
        told = words(text)
        with self.subTest(text=ascii(text[:80])):
            self.assertIs(type(told), list)
            for word in told:
                self.assertIs(type(word), str)
            self.assertEqual(told, wanted)

    def test_one_blank_between(self):
        self.check("a", ["a"])
        self.check("in a b", ["in", "a", "b"])
        self.check("x is and a b", ["x", "is", "and", "a", "b"])
        self.check(LETTERS, [LETTERS])
        self.check(" ".join(LETTERS), list(LETTERS))

    def test_any_number_of_blanks_ahead_between_and_behind(self):
        for ahead in (0, 1, 2, 9):
            for between in (1, 2, 3, 30):
                for behind in (0, 1, 2, 9):
                    text = " " * ahead + (" " * between).join(["out", "x", "x", "abcdefghij"]) + " " * behind
                    self.check(text, ["out", "x", "x", "abcdefghij"])
        self.check("  a b   c ", ["a", "b", "c"])

    def test_no_signs_and_blanks_alone(self):
        self.check("", [])
        for count in (1, 2, 3, 100, 4000):
            self.check(" " * count, [])

    def test_a_wrong_sign_at_any_place(self):
        for good in ("", " ", "a", "ab cd", "  in a  b "):
            for sign in WRONG_SIGNS:
                for place in range(len(good) + 1):
                    self.check(good[:place] + sign + good[place:], [])

    def test_words_in_capitals_and_figures(self):
        for text in ("IN A B", "In a b", "in a B", "12", "x1 is and a b", "in a, b", "in a\tb", "in a b\n"):
            self.check(text, [])

    def test_long_texts(self):
        self.check("z" * 4000, ["z" * 4000])
        self.check("z " * 2000, ["z"] * 2000)
        self.check(" z" * 2000, ["z"] * 2000)
        self.check(" " * 1999 + "ab" + " " * 1999, ["ab"])
        self.check("abcdefg " * 500, ["abcdefg"] * 500)
        for place in (0, 1, 1999, 3998, 3999):
            text = "ab " * 1333 + "a"
            self.check(text[:place] + "\t" + text[place + 1 :], [])
            self.check(text[:place] + "B" + text[place + 1 :], [])

    def test_a_list_that_was_told_is_changed(self):
        text = " x is  not a"
        told = words(text)
        told[0] = "y"
        told.append("b")
        self.check(text, ["x", "is", "not", "a"])
        again = words(text)
        words(text).clear()
        self.assertEqual(again, ["x", "is", "not", "a"])
        self.assertEqual(told, ["y", "is", "not", "a", "b"])

    def test_a_list_without_words_is_changed(self):
        for text in ("", "  ", "A", "a\n"):
            words(text).append("a")
            self.check(text, [])


class WrittenTest(unittest.TestCase):
    def check(self, net, wanted):
        told = written(net)
        self.assertIs(type(told), list)
        for line in told:
            self.assertIs(type(line), str)
        self.assertEqual(told, wanted)

    def test_the_written_example(self):
        self.check(Net(["a", "b"], [("x", "and", ["a", "b"])], ["x", "a"]), ["in a b", "x is and a b", "out x a"])

    def test_each_word(self):
        gates = [
            ("p", "and", ["a", "b", "c"]),
            ("q", "or", ["c", "p"]),
            ("r", "either", ["q", "a", "b", "c", "p", "a"]),
            ("s", "not", ["r"]),
            ("t", "choose", ["s", "a", "b"]),
            ("u", "most", ["b", "t", "a"]),
            ("v", "yes", []),
            ("w", "no", []),
        ]
        wanted = [
            "in c a b",
            "p is and a b c",
            "q is or c p",
            "r is either q a b c p a",
            "s is not r",
            "t is choose s a b",
            "u is most b t a",
            "v is yes",
            "w is no",
            "out w v u",
        ]
        self.check(Net(["c", "a", "b"], gates, ["w", "v", "u"]), wanted)

    def test_without_gates(self):
        self.check(Net(["a"], [], ["a"]), ["in a", "out a"])
        self.check(Net(["zebra", "abcdefgh"], [], ["abcdefgh"]), ["in zebra abcdefgh", "out abcdefgh"])

    def test_names_more_than_once(self):
        gates = [("x", "either", ["a", "a", "b", "a"]), ("y", "choose", ["x", "x", "x"])]
        net = Net(["b", "a"], gates, ["y", "y", "a", "y", "a"])
        self.check(net, ["in b a", "x is either a a b a", "y is choose x x x", "out y y a y a"])

    def test_the_most_of_all(self):
        inputs = list("abcdefghij")
        gates = [(fresh_name(number), "and", list("abcdef")) for number in range(60)]
        outputs = [fresh_name(number) for number in range(16)]
        wanted = ["in a b c d e f g h i j"]
        wanted += [fresh_name(number) + " is and a b c d e f" for number in range(60)]
        wanted += ["out " + " ".join(outputs)]
        self.check(Net(inputs, gates, outputs), wanted)

    def test_the_net_stays_and_the_list_is_a_new_one(self):
        net = Net(["a", "b"], [("x", "or", ["a", "b"])], ["x"])
        told = written(net)
        told[1] = "x is and a b"
        told.append("out a")
        self.check(net, ["in a b", "x is or a b", "out x"])
        self.assertEqual(net.columns(), [14])
        again = written(net)
        written(net).clear()
        self.assertEqual(again, ["in a b", "x is or a b", "out x"])

    def test_what_the_net_was_made_of_is_changed_behind(self):
        inputs, parts, outputs = ["a", "b"], ["a", "b"], ["x"]
        gates = [("x", "or", parts)]
        net = Net(inputs, gates, outputs)
        for some in (parts, gates, inputs, outputs):
            some.clear()
        self.check(net, ["in a b", "x is or a b", "out x"])


class Checks(unittest.TestCase):
    def check_refused(self, lines, refusal):
        was = list(lines)
        with self.subTest(lines=lines):
            with self.assertRaises(FoldError) as taken:
                net_of(lines)
            self.assertIs(type(taken.exception), refusal)
            self.assertEqual(lines, was)

    def check_read(self, lines, inputs, gates, outputs):
        was = list(lines)
        net = net_of(lines)
        with self.subTest(lines=lines):
            wanted = Net(inputs, gates, outputs)
            self.assertIsInstance(net, Net)
            self.assertEqual(lines, was)
            self.assertEqual(written(net), written(wanted))
            self.assertEqual(net.columns(), wanted.columns())


class ReadTest(Checks):
    def test_the_written_example(self):
        self.check_read(["in a b", "x is and a b", "out x a"], ["a", "b"], [("x", "and", ["a", "b"])], ["x", "a"])

    def test_without_gates(self):
        self.check_read(["in a", "out a"], ["a"], [], ["a"])

    def test_each_word_with_each_number_of_parts(self):
        inputs = list("abcdef")
        for word, counts in COUNTS.items():
            for count in counts:
                lines = ["in a b c d e f", " ".join(["x", "is", word] + inputs[:count]), "out x"]
                self.check_read(lines, inputs, [("x", word, inputs[:count])], ["x"])

    def test_blanks_ahead_between_and_behind(self):
        lines = ["  in   a b", " x  is and  a   b   ", "out x    a  "]
        self.check_read(lines, ["a", "b"], [("x", "and", ["a", "b"])], ["x", "a"])

    def test_one_to_ten_inputs_and_one_to_sixteen_outputs(self):
        for many in range(1, 11):
            inputs = list("abcdefghij"[:many])
            for count in range(1, 17):
                outputs = [inputs[number % many] for number in range(count)]
                self.check_read(["in " + " ".join(inputs), "out " + " ".join(outputs)], inputs, [], outputs)

    def test_names_at_the_edge(self):
        lines = ["in inn isis abcdefgh", "outer is most inn isis abcdefgh", "nots is not outer", "out nots nots"]
        gates = [("outer", "most", ["inn", "isis", "abcdefgh"]), ("nots", "not", ["outer"])]
        self.check_read(lines, ["inn", "isis", "abcdefgh"], gates, ["nots", "nots"])

    def test_names_more_than_once_among_parts_and_outputs(self):
        lines = ["in a b", "x is either a a b a", "y is and x x", "out y y b y b"]
        gates = [("x", "either", ["a", "a", "b", "a"]), ("y", "and", ["x", "x"])]
        self.check_read(lines, ["a", "b"], gates, ["y", "y", "b", "y", "b"])

    def test_what_was_written_is_read_again_and_written_alike(self):
        for many in range(1, 11):
            for gate_count in (0, 1, 7, 60):
                for output_count in (1, 5, 16):
                    made = made_net(many, gate_count, output_count, f"lines {many} {gate_count} {output_count}")
                    lines = written(Net(*made))
                    self.check_read(lines, *made)

    def test_lines_changed_behind(self):
        lines = ["in a b", "x is and a b", "out x"]
        net = net_of(lines)
        lines[1] = "x is or a b"
        lines.clear()
        self.assertEqual(net.columns(), [8])
        self.assertEqual(written(net), ["in a b", "x is and a b", "out x"])

    def test_read_twice(self):
        lines = ["in a b", "x is and a b", "out x"]
        for turn in range(3):
            self.assertEqual(net_of(lines).columns(), [8])
            self.check_refused(["in a b", "y is and a x", "out x"], NoName)


class RefusedTest(Checks):
    def test_fewer_than_two_lines(self):
        for lines in ([], ["in a"], ["out a"], ["in a b"], [""], ["in is"], ["x is and a b"], ["IN"]):
            self.check_refused(lines, NoLine)

    def test_lines_without_words(self):
        good = ["in a b", "x is and a b", "y is or a b", "z is not a", "out x"]
        for place in range(len(good)):
            for text in ("", " ", "    ", "\n", "\t", "A", "5"):
                self.check_refused(good[:place] + [text] + good[place + 1 :], NoLine)

    def test_a_wrong_sign_in_a_line(self):
        good = ["in a b", "x is and a b", "y is or a b", "z is not a", "out x"]
        for place, line in enumerate(good):
            for sign in ("A", "7", "-", "\t", "\n", "\r", "\u00e9", "\u3000"):
                for cut in range(len(line) + 1):
                    wrong = line[:cut] + sign + line[cut:]
                    self.check_refused(good[:place] + [wrong] + good[place + 1 :], NoLine)

    def test_the_form_of_the_first_line(self):
        eleven = "in " + " ".join("abcdefghijk")
        for text in ("in", " in ", "a b", "a", "is a b", "out a b", "a in b", "inn a b", "ina b", eleven):
            self.check_refused([text, "x is and a b", "out x"], NoLine)
            self.check_refused([text, "out a"], NoLine)
        self.check_refused(["x is and a b", "out a"], NoLine)
        self.check_refused(["in " + "a " * 11, "out a"], NoLine)
        self.check_refused(["in " + "is " * 11, "out a"], NoLine)

    def test_the_form_of_the_last_line(self):
        for text in ("out", " out ", "x", "a x", "in x", "is x", "x out", "outs x", "outx a", "out " + "a " * 17):
            self.check_refused(["in a b", "x is and a b", text], NoLine)
            self.check_refused(["in a b", text], NoLine)
        self.check_refused(["in a b", "x is and a b"], NoLine)
        self.check_refused(["in a b", "out " + "q " * 17], NoLine)

    def check_gate_line(self, text, refusal):
        good = ["p is and a b", "q is or p b", "r is most a b p"]
        for place in range(len(good) + 1):
            self.check_refused(["in a b"] + good[:place] + [text] + good[place:] + ["out a b"], refusal)
        self.check_refused(["in a b", text, "out a"], refusal)

    def test_the_form_of_a_gate(self):
        texts = ["x", "x is", "is", "is x", "is and a b", "x and a b", "x a b", "x not a", "x yes", "x is x", "x is a"]
        texts += ["x in and a b", "x iss and a b", "x is nor a b", "x is in a b", "x is is a b", "x is out a b"]
        texts += ["x is andd a b", "x is an a b", "x y is and a b", "x is is and a b", "in a b", "out a b", "out", "in"]
        for text in texts:
            self.check_gate_line(text, NoLine)

    def test_the_number_of_parts(self):
        for word, counts in COUNTS.items():
            for count in range(0, 12):
                if count not in counts:
                    self.check_gate_line(" ".join(["x", "is", word] + ["a"] * count), NoLine)

    def test_inputs_that_are_no_names(self):
        for word in KEPT_WORDS + ["abcdefghi", "z" * 100]:
            for text in (f"in {word}", f"in {word} a b", f"in a {word} b", f"in a b {word}"):
                self.check_refused([text, "x is and a b", "out x"], NoName)
                self.check_refused([text, "out a"], NoName)

    def test_inputs_that_stand_twice(self):
        for text in ("in a a", "in a b a", "in b a a", "in a a b", "in c a b d b", "in a b c d e f g h i a"):
            self.check_refused([text, "x is and a b", "out x"], NoName)

    def test_gates_whose_name_is_none(self):
        for word in KEPT_WORDS + ["abcdefghi", "z" * 100]:
            self.check_gate_line(f"{word} is and a b", NoName)
            self.check_gate_line(f"{word} is yes", NoName)

    def test_gates_whose_name_was_told_ahead(self):
        self.check_gate_line("a is and a b", NoName)
        self.check_gate_line("b is yes", NoName)
        for text in ("p is and a b", "p is not p", "q is and p b"):
            self.check_refused(["in a b", "p is and a b", "q is or a b", text, "out a"], NoName)
        self.check_refused(["in a b", "p is and a b", "p is and a b", "out p"], NoName)

    def test_parts_that_were_not_told_ahead(self):
        for part in ["x", "z", "c", "abcdefghi"] + KEPT_WORDS:
            self.check_gate_line(f"x is not {part}", NoName)
            self.check_gate_line(f"x is and {part} a", NoName)
            self.check_gate_line(f"x is and a {part}", NoName)
            self.check_gate_line(f"x is most a {part} b", NoName)
        self.check_refused(["in a b", "x is and a y", "y is or a b", "out x"], NoName)
        self.check_refused(["in a b", "x is and a b", "y is or x y", "out x"], NoName)

    def test_outputs_that_are_not_there(self):
        for word in ["c", "y", "abcdefghi"] + KEPT_WORDS:
            for text in (f"out {word}", f"out {word} a x", f"out a {word} x", f"out x a {word}"):
                self.check_refused(["in a b", "x is and a b", text], NoName)
        self.check_refused(["in a b", "out x"], NoName)

    def test_a_line_that_is_wrong_in_two_ways(self):
        self.check_refused(["in " + "a " * 11, "out a"], NoLine)
        self.check_refused(["out a a", "out a"], NoLine)
        for text in ("in is nor a b", "a is and z", "x is not z z", "a is and a b z z z z z", "in is yes a"):
            self.check_gate_line(text, NoLine)
        self.check_refused(["in a b", "out " + "z " * 17], NoLine)
        self.check_refused(["in a b", "in z"], NoLine)

    def test_two_wrong_lines_at_once(self):
        no_line = ["x and a b", "x is nor a b", "", "x is not a b"]
        no_name = ["in is and a b", "x is and a z", "a is yes"]
        for one in no_line:
            for other in no_name:
                self.check_refused(["in a b", one, other, "out a"], NoLine)
                self.check_refused(["in a b", other, one, "out a"], NoName)
                self.check_refused(["in a b", "p is yes", other, "q is no", one, "out a"], NoName)
        self.check_refused(["in a a", "x and a b", "out"], NoName)
        self.check_refused(["in", "x is and a z", "out z"], NoLine)
        self.check_refused(["in a b", "x is and a z", "out"], NoName)
        self.check_refused(["in a b", "x is nor a b", "out z"], NoLine)
        self.check_refused(["in is", "out"], NoName)
        self.check_refused(["in", "out z"], NoLine)

    def test_a_refused_gate_is_not_told(self):
        self.check_refused(["in a b", "x is and a b", "y is and x z", "out x"], NoName)
        self.check_read(["in a b", "y is and a b", "out y"], ["a", "b"], [("y", "and", ["a", "b"])], ["y"])

    def test_the_words_of_other_lines_are_no_names(self):
        self.check_refused(["in a b", "out is and a b", "out a"], NoName)
        self.check_refused(["in a b", "in is and a b", "out a"], NoName)
        self.check_refused(["in a b", "out is and a b"], NoName)
        self.check_refused(["in is and a b", "out a"], NoName)

    def test_many_lines(self):
        gates = [f"{fresh_name(number)} is not a" for number in range(60)]
        lines = ["in a"] + gates + ["out a"]
        was = copy.deepcopy(lines)
        self.assertEqual(written(net_of(lines)), was)
        for place in range(len(lines)):
            self.check_refused(lines[:place] + ["?"] + lines[place + 1 :], NoLine)


if __name__ == "__main__":
    unittest.main()
