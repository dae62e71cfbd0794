"""[10] and [11]: roots compared with roots and with fractions, and the sign of a polynomial at a root."""

import random
import unittest
from fractions import Fraction

from tests.helpers import (
    all_count,
    by_roots,
    chance_fraction,
    chance_poly,
    check_asked,
    check_refused,
    is_sign,
    line,
    numbers_of,
    pair,
    poly,
    power,
    sturm_count,
    sturm_ranks,
    times,
    value,
)
from webtones.errors import NoRoot
from webtones.roots.compared import compared_roots, compared_with, sign_at
from webtones.roots.polynomials import poly_times

TWO = poly(-2, 0, 1)
THREE = poly(-3, 0, 1)
NO_ROOTS = poly(1, 0, 1)
NEAR_TWO = Fraction(1414213562373095048801688724209698078569671875376948073176679, 10**60)


def sign(number):
    return (number > 0) - (number < 0)


class Case(unittest.TestCase):
    def assert_roots(self, one, number, other, beside, wanted):
        told = compared_roots(one, number, other, beside)
        self.assertTrue(is_sign(told), told)
        self.assertEqual(told, wanted, (one, number, other, beside))
        self.assertEqual(compared_roots(other, beside, one, number), -wanted)

    def assert_with(self, one, number, fraction, wanted):
        told = compared_with(one, number, pair(fraction))
        self.assertTrue(is_sign(told), told)
        self.assertEqual(told, wanted, (one, number, fraction))

    def assert_sign(self, one, other, number, wanted):
        told = sign_at(one, other, number)
        self.assertTrue(is_sign(told), told)
        self.assertEqual(told, wanted, (one, other, number))

    def assert_no_root(self, function, *arguments):
        check_refused(self, NoRoot, function, *arguments)


class Roots(Case):
    def test_known_ones(self):
        one = by_roots(-3, Fraction(1, 2), 4)
        other = by_roots(-3, Fraction(2, 5), 4, 9)
        own, their = [-3, Fraction(1, 2), 4], [-3, Fraction(2, 5), 4, 9]
        for number, left in enumerate(own):
            for beside, right in enumerate(their):
                self.assert_roots(one, number, other, beside, sign(left - right))

    def test_within_one_polynomial(self):
        polynomial = times(TWO, THREE, line(0), line(Fraction(3, 2)))
        for number in range(6):
            for beside in range(6):
                self.assert_roots(polynomial, number, polynomial, beside, sign(number - beside))

    def test_equal_roots_of_unlike_polynomials(self):
        self.assert_roots(TWO, 1, times(TWO, THREE), 2, 0)
        self.assert_roots(times(TWO, line(0)), 2, times(TWO, line(5), NO_ROOTS), 1, 0)
        self.assert_roots(TWO, 0, poly(-4, 0, 0, 0, 1), 0, 0)
        self.assert_roots(poly(-8, 0, 0, 0, 0, 0, 1), 1, TWO, 1, 0)
        self.assert_roots(TWO, 1, times(poly(Fraction(-5, 7)), TWO), 1, 0)
        self.assert_roots(line(Fraction(1, 3)), 0, poly(-1, 0, 9), 1, 0)

    def test_one_so_often(self):
        for many in range(1, 6):
            self.assert_roots(power(TWO, many), 1, TWO, 1, 0)
            self.assert_roots(power(TWO, many), 0, TWO, 1, -1)
            self.assert_roots(times(power(TWO, many), power(THREE, 2)), 3, power(line(Fraction(17, 10)), many), 0, 1)
            self.assert_roots(times(power(TWO, many), power(THREE, 2)), 2, times(THREE, power(TWO, 2)), 2, 0)

    def test_very_close_to_one_another(self):
        self.assert_roots(TWO, 1, line(NEAR_TWO), 0, 1)
        self.assert_roots(TWO, 1, line(NEAR_TWO + Fraction(1, 10**60)), 0, -1)
        self.assert_roots(times(TWO, line(NEAR_TWO)), 2, times(TWO, line(NEAR_TWO)), 1, 1)
        apart = poly(-2 - Fraction(1, 999999), 0, 1)
        self.assert_roots(TWO, 1, apart, 1, -1)
        self.assert_roots(TWO, 0, apart, 0, 1)
        told = poly_times(poly(-2 - Fraction(1, 999999), 0, 1), poly(-2 - Fraction(1, 999998), 0, 1))
        self.assert_roots(told, 2, told, 3, -1)
        # Golden: roots of x x - x - 1, and of that with x x x ahead, which has two near them.
        golden = poly(-1, -1, 1)
        self.assert_roots(golden, 1, poly(-1, -1, 1 + Fraction(1, 999999)), 1, 1)

    def test_by_chance(self):
        chance = random.Random(14)
        polys = [times(chance_poly(chance, 3, 1), line(chance_fraction(chance, 1))) for _ in range(8)]
        polys += [chance_poly(chance, 10), chance_poly(chance, 10)]
        for one in polys:
            for other in polys:
                left, right = map(sorted, map(set, sturm_ranks(one, other)))
                for number, rank in enumerate(left):
                    for beside, their in enumerate(right):
                        self.assert_roots(one, number, other, beside, sign(rank - their))

    def test_told_polynomials_handed_on(self):
        chance = random.Random(15)
        one = poly_times(by_roots(*range(1, 11)), chance_poly(chance, 10))
        other = poly_times(by_roots(*range(5, 15)), by_roots(*[Fraction(k, 3) for k in range(10)]))
        count = all_count(other)
        for beside in range(count):
            left = sturm_count(one, Fraction(-10**14), Fraction(7)) - 1
            rank = sturm_count(other, Fraction(-10**14), Fraction(7)) - 1
            self.assert_roots(one, left, other, beside, sign(rank - beside))


class WithFractions(Case):
    def test_fractions_equal_to_a_root(self):
        for root in (0, -4, Fraction(1, 3), Fraction(-999999, 999998)):
            for polynomial in (line(root), power(line(root), 3), times(poly(Fraction(-2, 7)), line(root), NO_ROOTS)):
                self.assert_with(polynomial, 0, root, 0)
                self.assert_with(polynomial, 0, root + Fraction(1, 10**12), -1)
                self.assert_with(polynomial, 0, root - Fraction(1, 10**12), 1)

    def test_very_close(self):
        self.assert_with(TWO, 1, NEAR_TWO, 1)
        self.assert_with(TWO, 1, NEAR_TWO + Fraction(1, 10**60), -1)
        self.assert_with(TWO, 0, -NEAR_TWO, -1)
        self.assert_with(TWO, 0, -NEAR_TWO - Fraction(1, 10**60), 1)
        self.assert_with(TWO, 1, Fraction(1414213562373, 10**12), 1)
        self.assert_with(TWO, 1, Fraction(1414213562374, 10**12), -1)

    def test_amid_other_roots(self):
        polynomial = times(power(TWO, 2), by_roots(-2, 0, Fraction(3, 2), Fraction(3, 2)))
        ranks = [Fraction(-2), -NEAR_TWO, Fraction(0), NEAR_TWO, Fraction(3, 2)]
        for number, root in enumerate(ranks):
            for fraction in (-3, -2, -1, 0, 1, Fraction(29, 20), Fraction(3, 2), 7, 10**12 - 1, 1 - 10**12):
                self.assert_with(polynomial, number, fraction, sign(root - fraction))

    def test_by_chance(self):
        chance = random.Random(16)
        for _ in range(25):
            polynomial = chance_poly(chance, chance.randint(1, 10), chance.choice([1, 6]))
            for number in range(all_count(polynomial)):
                for figures in (1, 12):
                    fraction = chance_fraction(chance, figures)
                    below = sturm_count(polynomial, Fraction(-10**20), fraction)
                    if value(polynomial, fraction) != 0:
                        self.assert_with(polynomial, number, fraction, -1 if number < below else 1)


class Signs(Case):
    def test_nought_and_numbers_alone(self):
        for other in (TWO, line(3), power(THREE, 3), by_roots(0, 1)):
            self.assert_sign((), other, 0, 0)
            self.assert_sign(poly(5), other, 0, 1)
            self.assert_sign(poly(Fraction(-1, 7)), other, 0, -1)

    def test_just_that_root(self):
        self.assert_sign(TWO, TWO, 0, 0)
        self.assert_sign(TWO, TWO, 1, 0)
        self.assert_sign(times(poly(-3), power(TWO, 2), THREE), times(TWO, line(1)), 2, 0)
        self.assert_sign(line(1), times(TWO, line(1)), 1, 0)
        self.assert_sign(poly(-4, 0, 0, 0, 1), TWO, 1, 0)
        self.assert_sign(power(line(Fraction(2, 3)), 2), line(Fraction(2, 3)), 0, 0)

    def test_a_neighbouring_root(self):
        for factor in (1, -1, Fraction(-5, 9)):
            one = times(poly(factor), line(NEAR_TWO))
            self.assert_sign(one, TWO, 1, sign(factor))
            self.assert_sign(one, TWO, 0, -sign(factor))
            one = times(poly(factor), line(NEAR_TWO + Fraction(1, 10**60)))
            self.assert_sign(one, TWO, 1, -sign(factor))
            self.assert_sign(times(poly(factor), power(line(NEAR_TWO), 2)), TWO, 1, sign(factor))
            self.assert_sign(times(poly(factor), TWO), line(NEAR_TWO), 0, -sign(factor))
            self.assert_sign(times(poly(factor), TWO), power(line(NEAR_TWO), 2), 0, -sign(factor))

    def test_none_near(self):
        self.assert_sign(NO_ROOTS, TWO, 0, 1)
        self.assert_sign(times(poly(-1), NO_ROOTS), TWO, 1, -1)
        self.assert_sign(by_roots(10, 20, 30), TWO, 1, -1)
        self.assert_sign(by_roots(-10, 20, 30), TWO, 1, 1)

    def test_at_fractions_by_chance(self):
        chance = random.Random(17)
        for _ in range(60):
            one = chance_poly(chance, chance.randint(0, 10), chance.choice([1, 6]))
            roots = sorted({chance_fraction(chance, 1) for _ in range(3)})
            other = times(poly(chance_fraction(chance) or 1), by_roots(*roots), by_roots(roots[0]))
            for number, root in enumerate(roots):
                self.assert_sign(one, other, number, sign(value(one, root)))

    def test_at_others_by_chance(self):
        chance = random.Random(18)
        for _ in range(40):
            numbers = numbers_of(chance_poly(chance, chance.randint(0, 6), 1))
            # Put into x x = 2 the polynomial is even + odd * x.
            even = sum(number * 2 ** (at // 2) for at, number in enumerate(numbers) if at % 2 == 0)
            odd = sum(number * 2 ** (at // 2) for at, number in enumerate(numbers) if at % 2 == 1)
            for number, root in ((0, -NEAR_TWO), (1, NEAR_TWO)):
                self.assert_sign(poly(*numbers), TWO, number, sign(even + odd * root) if odd or even else 0)

    def test_told_polynomials_handed_on(self):
        chance = random.Random(19)
        one = poly_times(chance_poly(chance, 10), by_roots(*range(10)))
        other = poly_times(by_roots(*range(5, 15)), by_roots(*[Fraction(k, 3) for k in range(1, 11)]))
        roots = sorted(set(range(5, 15)) | {Fraction(k, 3) for k in range(1, 11)})
        for number, root in enumerate(roots):
            self.assert_sign(one, other, number, sign(value(one, root)))


class Refused(Case):
    POLYS = [TWO, line(0), power(THREE, 2), NO_ROOTS, poly(7), poly(Fraction(-1, 3)), times(TWO, TWO, NO_ROOTS)]

    def wrong_numbers(self, polynomial):
        count = all_count(polynomial)
        return [-1, -2, -1 - count, -(10**5000), count, count + 1, 10**5000]

    def test_numbers_of_no_root(self):
        for polynomial in self.POLYS:
            for number in self.wrong_numbers(polynomial):
                self.assert_no_root(compared_with, polynomial, number, (0, 1))
                self.assert_no_root(compared_roots, polynomial, number, TWO, 0)
                self.assert_no_root(compared_roots, TWO, 1, polynomial, number)
                self.assert_no_root(compared_roots, polynomial, number, polynomial, number)
                for one in ((), poly(1), TWO, polynomial):
                    self.assert_no_root(sign_at, one, polynomial, number)

    def test_polynomials_without_roots(self):
        for polynomial in (NO_ROOTS, poly(7), power(NO_ROOTS, 3)):
            self.assert_no_root(compared_with, polynomial, 0, (0, 1))
            self.assert_no_root(compared_roots, polynomial, 0, polynomial, 0)
            self.assert_no_root(compared_roots, polynomial, 0, TWO, 0)
            self.assert_no_root(compared_roots, TWO, 0, polynomial, 0)
            self.assert_no_root(sign_at, TWO, polynomial, 0)
            self.assert_no_root(sign_at, (), polynomial, 0)

    def test_repeats_are_counted_once(self):
        self.assert_with(power(line(2), 3), 0, 2, 0)
        self.assert_no_root(compared_with, power(line(2), 3), 1, (2, 1))
        self.assert_no_root(compared_roots, power(TWO, 2), 2, TWO, 0)
        self.assert_no_root(sign_at, TWO, power(TWO, 2), 2)

    def test_the_other_ones_roots_are_not_counted(self):
        self.assert_no_root(compared_roots, line(0), 1, TWO, 1)
        self.assert_no_root(compared_roots, TWO, 1, line(0), 1)
        self.assert_no_root(sign_at, by_roots(1, 2, 3), line(0), 1)


class Asked(Case):
    def test_by_place_and_by_name_again_and_again(self):
        asked = []
        for one, other in ((TWO, THREE), (times(TWO, line(1)), TWO), (line(3), by_roots(1, 2, 3))):
            arguments = {"poly": one, "number": 0, "other": other, "beside": 1}
            asked.append((compared_roots, arguments, is_sign, True))
            asked.append((compared_with, {"poly": one, "number": 0, "fraction": (-7, 5)}, is_sign, True))
            asked.append((sign_at, {"poly": one, "other": other, "number": 1}, is_sign, True))
        asked.append((sign_at, {"poly": (), "other": TWO, "number": 0}, is_sign, True))
        check_asked(self, asked)

    def test_refused_again_and_again(self):
        for _ in range(3):
            with self.assertRaises(NoRoot):
                compared_roots(beside=2, other=TWO, number=0, poly=TWO)
            with self.assertRaises(NoRoot):
                compared_with(fraction=(0, 1), number=2, poly=TWO)
            with self.assertRaises(NoRoot):
                sign_at(number=2, other=TWO, poly=())
            self.assert_roots(TWO, 0, TWO, 0, 0)


if __name__ == "__main__":
    unittest.main()
