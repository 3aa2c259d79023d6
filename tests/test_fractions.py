import math
import unittest
from fractions import Fraction

from earbells.fractions import fraction, less, minus, plus, times

LONG = 123456789012345678901234567890123456789012345678901234567890
LONG_TOO = 987654321098765432109876543210987654321098765432109876543211

TOPS = [-LONG, -12, -7, -6, -4, -1, 0, 1, 2, 3, 4, 6, 12, 35, LONG, LONG_TOO]
BOTTOMS = [1, 2, 3, 4, 6, 7, 12, 30, LONG, LONG_TOO]
SAMPLES = [
    (0, 1), (1, 1), (-1, 1), (1, 2), (-1, 2), (1, 3), (2, 3), (-2, 3), (5, 6),
    (7, 4), (-7, 4), (12, 1), (-12, 1), (LONG, LONG_TOO), (-LONG, LONG_TOO),
    (LONG_TOO, 2), (1, LONG),
]
WHOLES = [-LONG, -12, -3, -2, -1, 0, 1, 2, 3, 12, LONG]


class FractionCase(unittest.TestCase):
    def assert_fraction(self, told, wanted):
        self.assertIs(type(told), tuple)
        self.assertEqual(len(told), 2)
        self.assertIs(type(told[0]), int)
        self.assertIs(type(told[1]), int)
        self.assertGreaterEqual(told[1], 1)
        self.assertEqual(math.gcd(told[0], told[1]), 1)
        self.assertEqual(told, (wanted.numerator, wanted.denominator))


class Making(FractionCase):
    def test_told_ones(self):
        self.assertEqual(fraction(3, 2), (3, 2))
        self.assertEqual(fraction(6, 4), (3, 2))
        self.assertEqual(fraction(-6, 4), (-3, 2))
        self.assertEqual(fraction(12, 4), (3, 1))
        self.assertEqual(fraction(4, 12), (1, 3))
        self.assertEqual(fraction(5, 1), (5, 1))
        self.assertEqual(fraction(-5, 5), (-1, 1))

    def test_nought(self):
        for bottom in BOTTOMS:
            self.assertEqual(fraction(0, bottom), (0, 1))

    def test_sixty_figures(self):
        self.assertEqual(len(str(LONG)), 60)
        self.assertEqual(fraction(LONG * 6, LONG * 4), (3, 2))
        self.assertEqual(fraction(-LONG, LONG), (-1, 1))
        self.assertEqual(fraction(LONG, 1), (LONG, 1))

    def test_two_hundred_figures(self):
        big = 10 ** 199 + 3
        self.assertEqual(fraction(big * 2, big * 3), (2, 3))
        self.assert_fraction(fraction(big, big - 1), Fraction(big, big - 1))

    def test_all_in_lowest_terms(self):
        for top in TOPS:
            for bottom in BOTTOMS:
                with self.subTest(top=top, bottom=bottom):
                    self.assert_fraction(fraction(top, bottom), Fraction(top, bottom))


class Reckoning(FractionCase):
    def test_told_sums(self):
        self.assertEqual(plus((1, 2), (1, 3)), (5, 6))
        self.assertEqual(plus((1, 6), (1, 3)), (1, 2))
        self.assertEqual(plus((1, 2), (1, 2)), (1, 1))
        self.assertEqual(plus((-1, 2), (1, 3)), (-1, 6))

    def test_told_differences(self):
        self.assertEqual(minus((1, 2), (1, 3)), (1, 6))
        self.assertEqual(minus((1, 3), (1, 2)), (-1, 6))
        self.assertEqual(minus((5, 6), (1, 3)), (1, 2))
        self.assertEqual(minus((0, 1), (1, 3)), (-1, 3))

    def test_told_products(self):
        self.assertEqual(times((5, 6), 3), (5, 2))
        self.assertEqual(times((5, 6), -3), (-5, 2))
        self.assertEqual(times((-5, 6), -6), (5, 1))
        self.assertEqual(times((5, 6), 1), (5, 6))

    def test_sums_and_differences_that_come_to_nought(self):
        for one in SAMPLES:
            with self.subTest(one=one):
                self.assertEqual(plus(one, (-one[0], one[1])), (0, 1))
                self.assertEqual(minus(one, one), (0, 1))

    def test_times_nought(self):
        for one in SAMPLES:
            self.assertEqual(times(one, 0), (0, 1))
        for whole in WHOLES:
            self.assertEqual(times((0, 1), whole), (0, 1))

    def test_all_sums_and_differences(self):
        for one in SAMPLES:
            for other in SAMPLES:
                with self.subTest(one=one, other=other):
                    first = Fraction(one[0], one[1])
                    second = Fraction(other[0], other[1])
                    self.assert_fraction(plus(one, other), first + second)
                    self.assert_fraction(minus(one, other), first - second)

    def test_all_products(self):
        for one in SAMPLES:
            for whole in WHOLES:
                with self.subTest(one=one, whole=whole):
                    self.assert_fraction(times(one, whole), Fraction(one[0], one[1]) * whole)


class Less(unittest.TestCase):
    def test_told_ones(self):
        self.assertIs(less((1, 3), (1, 2)), True)
        self.assertIs(less((1, 2), (1, 3)), False)
        self.assertIs(less((-1, 2), (-1, 3)), True)
        self.assertIs(less((-1, 3), (-1, 2)), False)
        self.assertIs(less((-1, 2), (0, 1)), True)
        self.assertIs(less((0, 1), (-1, 2)), False)

    def test_equal_ones_are_not_less(self):
        for one in SAMPLES:
            self.assertIs(less(one, one), False)

    def test_nearly_equal_long_ones(self):
        lower = (LONG, LONG + 1)
        upper = (LONG + 1, LONG + 2)
        self.assertIs(less(lower, upper), True)
        self.assertIs(less(upper, lower), False)

    def test_all_pairs(self):
        for one in SAMPLES:
            for other in SAMPLES:
                with self.subTest(one=one, other=other):
                    self.assertIs(less(one, other), Fraction(*one) < Fraction(*other))


if __name__ == "__main__":
    unittest.main()
