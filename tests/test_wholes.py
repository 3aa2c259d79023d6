import unittest

from earbells.wholes import is_whole, is_whole_within, is_written_whole


class WholeNumbers(unittest.TestCase):
    def test_ints_are_whole_numbers(self):
        for number in (0, 1, -1, 7, 10 ** 60, -(10 ** 199)):
            self.assertIs(is_whole(number), True)

    def test_truths_are_none(self):
        self.assertIs(is_whole(True), False)
        self.assertIs(is_whole(False), False)

    def test_other_kinds_are_none(self):
        for thing in (None, "1", "", 1.0, [1], (1,), {1: 1}, b"1"):
            with self.subTest(thing=thing):
                self.assertIs(is_whole(thing), False)

    def test_within_bounds(self):
        for number in (3, 4, 7):
            self.assertIs(is_whole_within(number, 3, 7), True)
        for thing in (2, 8, -4, 10 ** 60, True, None, "4", 4.0):
            self.assertIs(is_whole_within(thing, 0 if thing is True else 3, 7), False)


class WrittenNumbers(unittest.TestCase):
    def test_so_written(self):
        for text in ("0", "1", "9", "10", "1000", "9999"):
            self.assertIs(is_written_whole(text, 4), True)

    def test_not_so_written(self):
        for text in ("", "00", "01", "10000", "-1", "+1", " 1", "1 ", "1\n", "1.0", "a", "\u0661", "\u00b2"):
            with self.subTest(text=text):
                self.assertIs(is_written_whole(text, 4), False)


if __name__ == "__main__":
    unittest.main()
