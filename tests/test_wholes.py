import unittest

from gatefold.wholes import is_rising, is_whole
from samples import HUGE


class WholeTest(unittest.TestCase):
    def test_whole_numbers(self):
        for number in (0, 1, -1, 2, 17, HUGE, -HUGE):
            self.assertIs(is_whole(number), True)

    def test_what_is_none(self):
        for thing in (True, False, None, "", "1", 1.0, 2.5, [], [1], (1,), {}, b"1", 1j, object(), int):
            self.assertIs(is_whole(thing), False)


class RisingTest(unittest.TestCase):
    def test_rising(self):
        for numbers in ([], [0], [-HUGE], [0, 1], [-3, 5, HUGE], list(range(2000))):
            self.assertIs(is_rising(numbers), True)

    def test_not_rising(self):
        for numbers in ([1, 0], [0, 0], [1, 2, 2], [1, 1, 2], [1, 3, 2], [2, 1, 3], [HUGE, -HUGE]):
            self.assertIs(is_rising(numbers), False)


if __name__ == "__main__":
    unittest.main()
