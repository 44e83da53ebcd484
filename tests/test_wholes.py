import unittest

from gatefold.wholes import is_between, is_rising, is_whole
from samples import HUGE, NO_WHOLES


class WholeTest(unittest.TestCase):
    def test_whole_numbers(self):
        for number in (0, 1, -1, 2, 17, HUGE, -HUGE):
            self.assertIs(is_whole(number), True)

    def test_what_is_none(self):
        for thing in [*NO_WHOLES, object()]:
            self.assertIs(is_whole(thing), False)


class BetweenTest(unittest.TestCase):
    def test_numbers(self):
        for number in (-HUGE, -5, 0, 1, 2, 3, 6, 7, 8, HUGE):
            self.assertIs(is_between(number, 2, 7), number in (2, 3, 6, 7))
            self.assertIs(is_between(number, 7, 2), False)
            self.assertIs(is_between(number, number, number), True)

    def test_what_is_no_whole_number(self):
        for thing in [*NO_WHOLES, object()]:
            self.assertIs(is_between(thing, -HUGE, HUGE), False)


class RisingTest(unittest.TestCase):
    def test_rising(self):
        for numbers in ([], [0], [-HUGE], [0, 1], [-3, 5, HUGE], list(range(2000))):
            self.assertIs(is_rising(numbers), True)

    def test_not_rising(self):
        for numbers in ([1, 0], [0, 0], [1, 2, 2], [1, 1, 2], [1, 3, 2], [2, 1, 3], [HUGE, -HUGE]):
            self.assertIs(is_rising(numbers), False)


if __name__ == "__main__":
    unittest.main()
