"""[2]: whole numbers, and fractions in least numbers, below 1 or more."""

import operator
import unittest
from fractions import Fraction

from tests.helpers import pair
from webtones.roots.fractions import (
    common_divisor,
    compared_fractions,
    fraction_less,
    fraction_of,
    fraction_over,
    fraction_plus,
    fraction_times,
    is_fraction,
    is_whole,
)

SOME = [fraction_of(above, below) for above in range(-7, 8) for below in range(1, 7)]
GREAT = [(10**12 - 1, 10**12), (1 - 10**12, 999999999989), (3**80, 2**90), (-(7**60), 5**40)]


class Wholes(unittest.TestCase):
    def test_an_int_is_one(self):
        for number in (0, 1, -1, 99, 10**40):
            self.assertIs(is_whole(number), True)

    def test_truths_and_other_things_are_none(self):
        for thing in (True, False, None, "1", 1.0, (1,), [1], Fraction(1)):
            with self.subTest(thing=thing):
                self.assertIs(is_whole(thing), False)


class FractionsTold(unittest.TestCase):
    def test_least_numbers(self):
        self.assertEqual(fraction_of(6, 4), (3, 2))
        self.assertEqual(fraction_of(3, 2), (3, 2))
        self.assertEqual(fraction_of(12, 4), (3, 1))
        self.assertEqual(fraction_of(0, 5), (0, 1))

    def test_below_is_1_or_more(self):
        self.assertEqual(fraction_of(6, -4), (-3, 2))
        self.assertEqual(fraction_of(-6, -4), (3, 2))
        self.assertEqual(fraction_of(-6, 4), (-3, 2))
        self.assertEqual(fraction_of(0, -5), (0, 1))

    def test_none_has_0_below(self):
        for above in (-1, 0, 1):
            with self.assertRaises(ZeroDivisionError):
                fraction_of(above, 0)

    def test_all_small_ones(self):
        for above in range(-30, 31):
            for below in range(-30, 31):
                if below != 0:
                    told = fraction_of(above, below)
                    self.assertEqual(told, pair(Fraction(above, below)))
                    self.assertIs(is_fraction(told), True)

    def test_what_is_no_fraction(self):
        things = (
            (1, 0), (1, -1), (0, 2), (2, 4), (-3, 3), (1,), (1, 2, 3), (), [1, 2], 1, "12", None,
            (True, 1), (1, True), (1.0, 1), ("1", 2),
        )
        for thing in things:
            with self.subTest(thing=thing):
                self.assertIs(is_fraction(thing), False)

    def test_what_is_a_fraction(self):
        for thing in ((0, 1), (1, 1), (-1, 1), (-3, 2), (10**12, 10**12 - 1)):
            with self.subTest(thing=thing):
                self.assertIs(is_fraction(thing), True)

    def test_common_divisor(self):
        self.assertEqual(common_divisor(0, 0), 0)
        self.assertEqual(common_divisor(0, -4), 4)
        self.assertEqual(common_divisor(-6, 0), 6)
        self.assertEqual(common_divisor(-12, 18), 6)
        self.assertEqual(common_divisor(35, -64), 1)


class FractionsReckoned(unittest.TestCase):
    def check(self, function, sign, others):
        for one in SOME + GREAT:
            for other in others:
                told = function(one, other)
                self.assertEqual(told, pair(sign(Fraction(*one), Fraction(*other))), (one, other))

    def test_plus(self):
        self.check(fraction_plus, operator.add, SOME + GREAT)

    def test_less(self):
        self.check(fraction_less, operator.sub, SOME + GREAT)

    def test_times(self):
        self.check(fraction_times, operator.mul, SOME + GREAT)

    def test_over(self):
        self.check(fraction_over, operator.truediv, [other for other in SOME + GREAT if other[0] != 0])

    def test_over_0(self):
        with self.assertRaises(ZeroDivisionError):
            fraction_over((1, 2), (0, 1))

    def test_compared(self):
        for one in SOME + GREAT:
            for other in SOME + GREAT:
                left, right = Fraction(*one), Fraction(*other)
                self.assertEqual(compared_fractions(one, other), (left > right) - (left < right))


if __name__ == "__main__":
    unittest.main()
