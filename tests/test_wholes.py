import unittest

from earbells.wholes import is_whole


class WholeNumbers(unittest.TestCase):
    def test_ints_are_whole_numbers(self):
        for number in (0, 1, -1, 7, 10 ** 60, -(10 ** 199)):
            self.assertIs(is_whole(number), True)

    def test_truths_are_none(self):
        self.assertIs(is_whole(True), False)
        self.assertIs(is_whole(False), False)

    def test_other_kinds_are_none(self):
        for thing in (None, "1", "", 1.0, [1], (1,), {1: 1}, b"1"):
            with self.subTest(thing=thing):
                self.assertIs(is_whole(thing), False)


if __name__ == "__main__":
    unittest.main()
