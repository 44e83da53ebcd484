import itertools
import unittest

from gatefold.gates import is_name, lit_by
from samples import COUNTS, KEPT_WORDS, WRONG_SIGNS, gate_truth

LETTERS = "abcdefghijklmnopqrstuvwxyz"


class NamesTest(unittest.TestCase):
    def check(self, text, wanted):
        with self.subTest(text=ascii(text)):
            self.assertIs(is_name(text), wanted)

    def test_each_letter_by_itself(self):
        for letter in LETTERS:
            self.check(letter, True)

    def test_each_letter_at_each_place_of_eight(self):
        for letter in LETTERS:
            for place in range(8):
                self.check("q" * place + letter + "q" * (7 - place), True)

    def test_lengths(self):
        for length in range(0, 40):
            self.check("g" * length, 1 <= length <= 8)
        self.check("abcdefgh", True)
        self.check("abcdefghi", False)
        self.check("z" * 4000, False)

    def test_kept_words(self):
        for word in KEPT_WORDS:
            self.check(word, False)

    def test_kept_words_with_a_letter_more(self):
        for word in KEPT_WORDS:
            for place in range(len(word) + 1):
                for letter in LETTERS:
                    text = word[:place] + letter + word[place:]
                    self.check(text, text != "not")

    def test_kept_words_with_a_letter_less(self):
        for word in KEPT_WORDS:
            for place in range(len(word)):
                text = word[:place] + word[place + 1 :]
                self.check(text, text != "no")

    def test_kept_words_in_capitals_or_twice_or_with_blanks(self):
        for word in KEPT_WORDS:
            self.check(word.upper(), False)
            self.check(word.capitalize(), False)
            self.check(word + word, len(word) <= 4)
            for text in (" " + word, word + " ", word + "\n"):
                self.check(text, False)

    def test_a_wrong_sign_at_any_place(self):
        for sign in [" ", *WRONG_SIGNS]:
            self.check(sign, False)
            for good in ("a", "xyz", "abcdefg"):
                for place in range(len(good) + 1):
                    self.check(good[:place] + sign + good[place:], False)

    def test_nothing_but_wrong_signs(self):
        for text in (" ", "   ", "\n", "42", "AB"):
            self.check(text, False)


class LitByTest(unittest.TestCase):
    def test_every_word_at_every_list_of_truths(self):
        for word, counts in COUNTS.items():
            for count in counts:
                for truths in itertools.product([False, True], repeat=count):
                    with self.subTest(word, truths=truths):
                        self.assertIs(lit_by(word, list(truths)), gate_truth(word, truths))

    def test_written_tables(self):
        tables = {
            "and": "0001",
            "or": "0111",
            "either": "0110",
            "not": "10",
            "choose": "01010011",
            "most": "00010111",
            "yes": "1",
            "no": "0",
        }
        for word, signs in tables.items():
            count = (len(signs) - 1).bit_length()
            rows = itertools.product([False, True], repeat=count)
            told = [lit_by(word, list(truths)) for truths in rows]
            with self.subTest(word):
                self.assertEqual(told, [sign == "1" for sign in signs])

    def test_the_truths_stay_as_handed_in(self):
        for word, counts in COUNTS.items():
            for count in counts:
                for truths in itertools.product([False, True], repeat=count):
                    handed = list(truths)
                    lit_by(word, handed)
                    with self.subTest(word, truths=truths):
                        self.assertEqual(len(handed), count)
                        for truth, was in zip(handed, truths):
                            self.assertIs(truth, was)

    def test_asked_by_turns(self):
        for turn in range(3):
            self.assertIs(lit_by("choose", [True, False, True]), False)
            self.assertIs(lit_by("choose", [False, False, True]), True)


if __name__ == "__main__":
    unittest.main()
