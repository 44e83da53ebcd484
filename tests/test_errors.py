import unittest

from gatefold import errors

NAMES = [
    "NoLine",
    "NoName",
    "NoTie",
    "NoKnot",
    "NoCut",
    "NoGoal",
    "NoSize",
    "NoBoard",
    "NoText",
    "NoMatch",
]


class ErrorsTest(unittest.TestCase):
    def test_fold_error_is_a_value_error(self):
        self.assertTrue(issubclass(errors.FoldError, ValueError))

    def test_each_is_a_fold_error_and_a_value_error(self):
        for name in NAMES:
            with self.subTest(name):
                refusal = getattr(errors, name)
                self.assertEqual(refusal.__name__, name)
                self.assertTrue(issubclass(refusal, errors.FoldError))
                self.assertTrue(issubclass(refusal, ValueError))
                self.assertIsNot(refusal, errors.FoldError)

    def test_none_stands_under_another_one(self):
        for name in NAMES:
            for other in NAMES:
                with self.subTest(name, other=other):
                    under = issubclass(getattr(errors, name), getattr(errors, other))
                    self.assertEqual(under, name == other)

    def test_each_can_be_raised_with_words_and_taken_by_its_name(self):
        for name in NAMES:
            with self.subTest(name):
                refusal = getattr(errors, name)
                with self.assertRaises(refusal) as taken:
                    raise refusal("some words")
                self.assertEqual(str(taken.exception), "some words")


if __name__ == "__main__":
    unittest.main()
