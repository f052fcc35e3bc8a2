"""Point 5, and what a whole number is (point 2)."""

import unittest
from fractions import Fraction
from math import gcd

from keel.errors import NoNumber
from keel.fractions import fraction, is_whole, minus, plus, times, under

GREAT = 10 ** 60 + 7
SMALL_ONES = [
    fraction(top, bottom) for top in range(-7, 8) for bottom in range(1, 8) if gcd(top, bottom) == 1
]
GREAT_ONES = [(GREAT, 10 ** 61), (-(10 ** 62) - 1, 3), (2, 3 ** 150), (-2 * GREAT, 3 ** 150)]


def plain(value):
    return (value.numerator, value.denominator)


class FractionCase(unittest.TestCase):
    def assert_fraction(self, told, wanted):
        self.assertIs(type(told), tuple)
        self.assertEqual([type(part) for part in told], [int, int])
        self.assertEqual(told, wanted)


class IsWhole(unittest.TestCase):
    def test_ints(self):
        for thing in [0, 1, -1, 2, 10 ** 9, -(10 ** 9), 10 ** 70, -(10 ** 70)]:
            with self.subTest(thing=thing):
                self.assertIs(is_whole(thing), True)

    def test_other_things(self):
        for thing in [True, False, None, "", "1", "one", [], [1], (), (1,), (1, 2), {}, KeyError("1")]:
            with self.subTest(thing=thing):
                self.assertIs(is_whole(thing), False)


class Made(FractionCase):
    def test_lowest_terms(self):
        self.assert_fraction(fraction(6, 4), (3, 2))
        self.assert_fraction(fraction(4, 6), (2, 3))
        self.assert_fraction(fraction(3, 7), (3, 7))
        self.assert_fraction(fraction(8, 4), (2, 1))
        self.assert_fraction(fraction(5, 5), (1, 1))
        self.assert_fraction(fraction(5, 1), (5, 1))
        self.assert_fraction(fraction(1, 5), (1, 5))

    def test_signs(self):
        self.assert_fraction(fraction(-6, 4), (-3, 2))
        self.assert_fraction(fraction(6, -4), (-3, 2))
        self.assert_fraction(fraction(-6, -4), (3, 2))
        self.assert_fraction(fraction(7, -1), (-7, 1))
        self.assert_fraction(fraction(-7, -1), (7, 1))

    def test_top_of_zero(self):
        for bottom in [1, -1, 5, -5, GREAT, -GREAT]:
            with self.subTest(bottom=bottom):
                self.assert_fraction(fraction(0, bottom), (0, 1))

    def test_great_numbers(self):
        self.assert_fraction(fraction(GREAT * 6, GREAT * 4), (3, 2))
        self.assert_fraction(fraction(GREAT * 6, -GREAT * 4), (-3, 2))
        self.assert_fraction(fraction(GREAT, GREAT + 1), (GREAT, GREAT + 1))
        self.assert_fraction(fraction(10 ** 80, 10 ** 70), (10 ** 10, 1))
        self.assert_fraction(fraction(-(10 ** 70), 10 ** 80), (-1, 10 ** 10))
        self.assert_fraction(fraction(2 ** 700 * 9, 3 ** 500 * 8), (2 ** 697, 3 ** 498))

    def test_neighbours_in_the_row_that_takes_longest(self):
        one, other = 1, 1
        for _ in range(3000):
            one, other = other, one + other
        self.assert_fraction(fraction(one, other), (one, other))
        self.assert_fraction(fraction(-12 * one, 18 * other), plain(Fraction(-2 * one, 3 * other)))

    def test_all_small_ones(self):
        for top in range(-30, 31):
            for bottom in list(range(-30, 0)) + list(range(1, 31)):
                self.assert_fraction(fraction(top, bottom), plain(Fraction(top, bottom)))

    def test_second_number_zero(self):
        for top in [0, 1, -1, GREAT, -GREAT]:
            with self.subTest(top=top):
                with self.assertRaises(NoNumber):
                    fraction(top, 0)


class Reckoned(FractionCase):
    def test_plus(self):
        self.assert_fraction(plus((1, 2), (1, 3)), (5, 6))
        self.assert_fraction(plus((1, 6), (1, 3)), (1, 2))
        self.assert_fraction(plus((1, 2), (1, 2)), (1, 1))
        self.assert_fraction(plus((1, 2), (-1, 2)), (0, 1))
        self.assert_fraction(plus((1, 6), (-2, 3)), (-1, 2))
        self.assert_fraction(plus((0, 1), (0, 1)), (0, 1))

    def test_minus(self):
        self.assert_fraction(minus((1, 2), (1, 3)), (1, 6))
        self.assert_fraction(minus((1, 3), (1, 2)), (-1, 6))
        self.assert_fraction(minus((3, 4), (3, 4)), (0, 1))
        self.assert_fraction(minus((1, 2), (-1, 2)), (1, 1))
        self.assert_fraction(minus((0, 1), (5, 7)), (-5, 7))
        self.assert_fraction(minus((5, 6), (1, 3)), (1, 2))

    def test_times(self):
        self.assert_fraction(times((2, 3), (3, 4)), (1, 2))
        self.assert_fraction(times((-2, 3), (3, 4)), (-1, 2))
        self.assert_fraction(times((-2, 3), (-3, 2)), (1, 1))
        self.assert_fraction(times((5, 7), (0, 1)), (0, 1))
        self.assert_fraction(times((0, 1), (-5, 7)), (0, 1))
        self.assert_fraction(times((4, 3), (9, 2)), (6, 1))

    def test_all_pairs(self):
        for one in SMALL_ONES + GREAT_ONES:
            for other in SMALL_ONES[::5] + GREAT_ONES:
                left, right = Fraction(*one), Fraction(*other)
                self.assert_fraction(plus(one, other), plain(left + right))
                self.assert_fraction(minus(one, other), plain(left - right))
                self.assert_fraction(times(one, other), plain(left * right))
                self.assertIs(under(one, other), left < right)

    def test_great_numbers(self):
        self.assert_fraction(plus((1, GREAT), (-1, GREAT)), (0, 1))
        self.assert_fraction(plus((GREAT - 1, GREAT), (1, GREAT)), (1, 1))
        self.assert_fraction(minus((1, GREAT), (1, GREAT + 1)), (1, GREAT * (GREAT + 1)))
        self.assert_fraction(times((GREAT, GREAT + 1), (GREAT + 1, GREAT)), (1, 1))


class Under(unittest.TestCase):
    def test_less_alike_more(self):
        self.assertIs(under((1, 3), (1, 2)), True)
        self.assertIs(under((1, 2), (1, 2)), False)
        self.assertIs(under((1, 2), (1, 3)), False)

    def test_signs(self):
        self.assertIs(under((-1, 2), (-1, 3)), True)
        self.assertIs(under((-1, 3), (-1, 2)), False)
        self.assertIs(under((-1, 2), (1, 2)), True)
        self.assertIs(under((1, 2), (-1, 2)), False)
        self.assertIs(under((-1, 2), (0, 1)), True)
        self.assertIs(under((0, 1), (0, 1)), False)
        self.assertIs(under((0, 1), (-1, 2)), False)

    def test_very_near(self):
        less = (GREAT, GREAT + 1)
        more = (GREAT + 1, GREAT + 2)
        self.assertIs(under(less, more), True)
        self.assertIs(under(more, less), False)
        self.assertIs(under(less, less), False)
        self.assertIs(under((-GREAT - 1, GREAT + 2), (-GREAT, GREAT + 1)), True)
        self.assertIs(under((-GREAT, GREAT + 1), (-GREAT - 1, GREAT + 2)), False)
        self.assertIs(under((1, GREAT + 1), (1, GREAT)), True)
        self.assertIs(under((1, GREAT), (1, GREAT + 1)), False)


if __name__ == "__main__":
    unittest.main()
