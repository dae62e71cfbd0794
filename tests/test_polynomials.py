"""[5] and [6]: polynomials, reckoned exactly, their divisors and their parts."""

import random
import unittest
from fractions import Fraction

from tests.helpers import (
    by_roots,
    chance_fraction,
    chance_poly,
    check_asked,
    is_fraction,
    is_pairs,
    is_poly,
    is_whole,
    line,
    numbers_of,
    pair,
    poly,
    power,
    rest_of,
    slope,
    times,
    value,
)
from webtones.roots.polynomials import (
    parts_of,
    poly_divided,
    poly_divisor,
    poly_less,
    poly_plus,
    poly_times,
    slope_of,
    value_at,
)

NOUGHT = ()
ONE = poly(1)


def sum_of(one, other, sign=1):
    many = max(len(one), len(other))
    left = numbers_of(one) + [Fraction(0)] * (many - len(one))
    right = numbers_of(other) + [Fraction(0)] * (many - len(other))
    return poly(*[first + sign * second for first, second in zip(left, right)])


def small_polys():
    chance = random.Random(5)
    told = [NOUGHT, ONE, poly(-1), poly(0, 1), poly(Fraction(1, 2)), poly(0, 0, 3), poly(1, 1), poly(-1, 1), poly(1, -1)]
    for degree in range(5):
        for _ in range(4):
            numbers = [Fraction(chance.randint(-3, 3), chance.randint(1, 3)) for _ in range(degree)]
            told.append(poly(*numbers, chance.choice([-2, -1, 1, Fraction(1, 3)])))
    return told


def great_polys():
    chance = random.Random(6)
    told = [chance_poly(chance, degree) for degree in (0, 1, 2, 5, 9, 10, 10)]
    most = Fraction(999999, 999998)
    told.append(poly(*[most * (-1) ** at for at in range(11)]))
    told.append(poly(*[Fraction(1, 999999 - at) for at in range(11)]))
    return told


SMALL = small_polys()
GREAT = great_polys()


class Case(unittest.TestCase):
    def assert_poly(self, told, wanted):
        self.assertTrue(is_poly(told), told)
        self.assertEqual(told, wanted)


class Sums(Case):
    def test_small_and_great(self):
        for polys in (SMALL, GREAT):
            for one in polys:
                for other in polys:
                    self.assert_poly(poly_plus(one, other), sum_of(one, other))
                    self.assert_poly(poly_less(one, other), sum_of(one, other, -1))

    def test_last_fractions_fall_away(self):
        self.assert_poly(poly_plus(poly(1, 2, 3), poly(1, 2, -3)), poly(2, 4))
        self.assert_poly(poly_plus(poly(1, 2, 3), poly(1, -2, -3)), poly(2))
        self.assert_poly(poly_plus(poly(1, 2, 3), poly(-1, -2, -3)), NOUGHT)
        self.assert_poly(poly_plus(poly(0, 0, 3), poly(5, 0, -3)), poly(5))
        self.assert_poly(poly_less(poly(1, 2, 3), poly(0, 2, 3)), poly(1))
        self.assert_poly(poly_less(poly(1, 2, 3), poly(1, 2, 3)), NOUGHT)
        self.assert_poly(poly_less(poly(1, 2, 3), poly(1, 0, 3)), poly(0, 2))

    def test_noughts_within_stay(self):
        self.assert_poly(poly_plus(poly(1, 2, 3), poly(-1, -2)), ((0, 1), (0, 1), (3, 1)))

    def test_nought_on_either_side(self):
        for one in SMALL + GREAT:
            self.assert_poly(poly_plus(one, NOUGHT), one)
            self.assert_poly(poly_plus(NOUGHT, one), one)
            self.assert_poly(poly_less(one, NOUGHT), one)
            self.assert_poly(poly_less(NOUGHT, one), times(one, poly(-1)))
            self.assert_poly(poly_less(one, one), NOUGHT)

    def test_told_ones_handed_on(self):
        product = poly_times(GREAT[-1], GREAT[-2])
        self.assertEqual(len(product), 21)
        self.assert_poly(poly_plus(product, GREAT[-1]), sum_of(product, GREAT[-1]))
        self.assert_poly(poly_less(GREAT[-1], product), sum_of(GREAT[-1], product, -1))


class Products(Case):
    def test_small_and_great(self):
        for polys in (SMALL, GREAT):
            for one in polys:
                for other in polys:
                    self.assert_poly(poly_times(one, other), times(one, other))

    def test_nought(self):
        for one in SMALL + GREAT:
            self.assert_poly(poly_times(one, NOUGHT), NOUGHT)
            self.assert_poly(poly_times(NOUGHT, one), NOUGHT)
            self.assert_poly(poly_times(one, ONE), one)

    def test_factors_that_end_by_0(self):
        ends = [((0, 1),), ((0, 1),) * 4, ((1, 2), (0, 1)), ((1, 2), (0, 1), (3, 1), (0, 1), (0, 1))]
        for end in ends:
            for one in SMALL + ends:
                wanted = times(poly(*numbers_of(one)), poly(*numbers_of(end)))
                self.assert_poly(poly_times(one, end), wanted)
                self.assert_poly(poly_times(end, one), wanted)

    def test_told_products_handed_on(self):
        one = poly_times(GREAT[-1], GREAT[-2])
        other = poly_times(GREAT[-3], GREAT[-4])
        self.assertEqual((len(one), len(other)), (21, 21))
        self.assert_poly(poly_times(one, other), times(one, other))


class Divisions(Case):
    def check(self, one, other):
        told = poly_divided(one, other)
        self.assertIs(type(told), tuple)
        self.assertEqual(len(told), 3)
        word, often, rest = told
        self.assertEqual(word, "divided")
        self.assertTrue(is_poly(often), often)
        self.assertTrue(is_poly(rest), rest)
        self.assertTrue(rest == NOUGHT or len(rest) < len(other))
        self.assertEqual(sum_of(times(often, other), rest), one)
        return often, rest

    def test_small_and_great(self):
        for polys in (SMALL, GREAT):
            for one in polys:
                for other in polys:
                    if other != NOUGHT:
                        self.check(one, other)

    def test_by_hand(self):
        self.assertEqual(
            poly_divided(poly(5, 0, 3, 2), poly(1, 2)),
            ("divided", poly(Fraction(-1, 2), 1, 1), poly(Fraction(11, 2))),
        )
        self.assertEqual(poly_divided(poly(-1, 0, 1), poly(1, 1)), ("divided", poly(-1, 1), NOUGHT))

    def test_nought_divided(self):
        for other in SMALL + GREAT:
            if other != NOUGHT:
                self.assertEqual(poly_divided(NOUGHT, other), ("divided", NOUGHT, NOUGHT))

    def test_a_lesser_degree_by_a_greater_one(self):
        self.assertEqual(poly_divided(poly(1, 2), poly(1, 1, 1)), ("divided", NOUGHT, poly(1, 2)))
        self.assertEqual(poly_divided(poly(7), poly(0, 2)), ("divided", NOUGHT, poly(7)))
        self.assertEqual(poly_divided(GREAT[0], GREAT[-1]), ("divided", NOUGHT, GREAT[0]))

    def test_by_a_number_alone(self):
        self.assertEqual(
            poly_divided(poly(1, 2, 3), poly(Fraction(-2, 3))),
            ("divided", poly(Fraction(-3, 2), -3, Fraction(-9, 2)), NOUGHT),
        )
        self.assertEqual(poly_divided(poly(4), poly(6)), ("divided", poly(Fraction(2, 3)), NOUGHT))

    def test_just_so_often(self):
        for one in GREAT:
            for other in GREAT:
                often, rest = self.check(times(one, other), other)
                self.assertEqual((often, rest), (one, NOUGHT))

    def test_a_rest_of_far_lesser_degree(self):
        often, rest = self.check(sum_of(times(poly(1, 2, 3), poly(1, 0, 0, 1)), poly(9)), poly(1, 0, 0, 1))
        self.assertEqual((often, rest), (poly(1, 2, 3), poly(9)))

    def test_told_ones_handed_on(self):
        one = poly_times(GREAT[-1], GREAT[-3])
        for other in GREAT:
            often, rest = self.check(one, other)
            self.check(often, other)
            if rest != NOUGHT:
                self.check(one, rest)


class Values(Case):
    def test_at_fractions(self):
        ats = [0, 1, -1, Fraction(1, 2), Fraction(-7, 3), Fraction(999999999999, 999999999989),
               Fraction(-1, 999999999999), Fraction(-999999999999)]
        for one in SMALL + GREAT + [times(GREAT[-1], GREAT[-2])]:
            for at in ats:
                told = value_at(one, pair(at))
                self.assertTrue(is_fraction(told), told)
                self.assertEqual(told, pair(value(one, Fraction(at))))

    def test_nought_and_numbers_alone(self):
        self.assertEqual(value_at(NOUGHT, (5, 3)), (0, 1))
        self.assertEqual(value_at(poly(Fraction(2, 3)), (5, 7)), (2, 3))
        self.assertEqual(value_at(poly(Fraction(2, 3), 5), (0, 1)), (2, 3))

    def test_at_a_root(self):
        self.assertEqual(value_at(by_roots(Fraction(-2, 3), 5, Fraction(1, 7)), (-2, 3)), (0, 1))


class Slopes(Case):
    def test_slopes(self):
        for one in SMALL + GREAT + [times(GREAT[-1], GREAT[-2])]:
            self.assert_poly(slope_of(one), poly(*slope(numbers_of(one))))

    def test_of_nought_and_of_a_number_alone(self):
        self.assert_poly(slope_of(NOUGHT), NOUGHT)
        self.assert_poly(slope_of(poly(Fraction(7, 2))), NOUGHT)
        self.assert_poly(slope_of(poly(7, Fraction(1, 2))), poly(Fraction(1, 2)))
        self.assert_poly(slope_of(poly(0, 0, Fraction(1, 2))), poly(0, 1))


FACTORS = [line(0), line(3), line(Fraction(-2, 3)), poly(1, 0, 1), poly(-2, 0, 1), poly(Fraction(1, 2), 1, 1), poly(1, 1, 0, 1)]


class Divisors(Case):
    def check(self, one, other, wanted):
        self.assert_poly(poly_divisor(one, other), wanted)
        self.assert_poly(poly_divisor(other, one), wanted)

    def test_products_of_known_factors(self):
        chance = random.Random(7)
        for _ in range(60):
            own = [chance.randint(0, 2) for _ in FACTORS]
            their = [chance.randint(0, 2) for _ in FACTORS]
            one = times(poly(chance_fraction(chance) or 1), *[power(f, k) for f, k in zip(FACTORS, own)])
            other = times(poly(chance_fraction(chance) or 1), *[power(f, k) for f, k in zip(FACTORS, their)])
            wanted = times(*[power(f, min(k, m)) for f, k, m in zip(FACTORS, own, their)])
            self.check(one, other, wanted)

    def test_great_ones(self):
        for one in GREAT:
            common = times(one, poly(1 / numbers_of(one)[-1]))
            self.check(times(one, GREAT[-1]), times(one, GREAT[-3], line(9)), times(common))

    def test_one_of_both_nought(self):
        for one in SMALL + GREAT:
            if one != NOUGHT:
                self.check(one, NOUGHT, times(one, poly(1 / numbers_of(one)[-1])))

    def test_numbers_alone(self):
        self.check(poly(4), poly(6), ONE)
        self.check(poly(Fraction(-1, 3)), NOUGHT, ONE)
        for one in SMALL:
            self.check(poly(-7), one, ONE)

    def test_one_with_itself(self):
        for one in SMALL + GREAT:
            if one != NOUGHT:
                self.check(one, one, times(one, poly(1 / numbers_of(one)[-1])))
                self.check(one, times(one, poly(Fraction(-3, 7))), times(one, poly(1 / numbers_of(one)[-1])))

    def test_none_in_common(self):
        self.check(poly(1, 0, 1), poly(-2, 0, 1), ONE)
        self.check(line(3), line(Fraction(3000001, 1000000)), ONE)
        self.check(GREAT[-1], GREAT[-3], ONE)

    def test_common_roots_by_the_primes_that_are_looked_by(self):
        prime = 2**61 - 1
        self.check(line(1), line(1 + prime), ONE)
        self.check(poly(1, prime), poly(1, 2 * prime), ONE)
        self.check(times(poly(1, prime), line(2)), times(poly(1, prime), line(5)), poly(Fraction(1, prime), 1))
        self.check(times(poly(1, prime), line(2)), poly(1, 5 * prime), ONE)


class Parts(Case):
    def check(self, one):
        told = parts_of(one)
        self.assertTrue(is_pairs(told, is_poly, is_whole), told)
        counts = [many for _, many in told]
        self.assertEqual(counts, sorted(set(counts)))
        self.assertTrue(all(many >= 1 for many in counts))
        for at, (part, many) in enumerate(told):
            self.assertGreaterEqual(len(part), 2)
            self.assertEqual(part[-1], (1, 1))
            self.assertEqual(self.divisor_degree(part, poly(*slope(numbers_of(part)))), 0)
            for other, _ in told[at + 1:]:
                self.assertEqual(self.divisor_degree(part, other), 0)
        product = times(poly(numbers_of(one)[-1]), *[power(part, many) for part, many in told])
        self.assertEqual(product, one)
        return told

    def divisor_degree(self, one, other):
        one, other = numbers_of(one), numbers_of(other)
        while other:
            one, other = other, rest_of(one, other)
        return len(one) - 1

    def test_by_hand(self):
        one = times(poly(Fraction(-5, 3)), power(line(3), 2), poly(1, 0, 1), power(line(Fraction(1, 2)), 5))
        self.assertEqual(self.check(one), ((poly(1, 0, 1), 1), (line(3), 2), (line(Fraction(1, 2)), 5)))

    def test_two_factors_taken_equally_often_are_one_part(self):
        one = times(power(line(3), 2), power(poly(1, 0, 1), 2), line(0))
        self.assertEqual(self.check(one), ((line(0), 1), (times(line(3), poly(1, 0, 1)), 2)))

    def test_each_number_of_times(self):
        for many in range(1, 11):
            for factor in (line(Fraction(2, 7)), poly(1, 0, 1), poly(-2, 0, 1)):
                self.assertEqual(self.check(times(poly(Fraction(1, 9)), power(factor, many))), ((factor, many),))

    def test_one_to_ten_times_all_at_once(self):
        one = times(*[power(line(root), root) for root in range(1, 11)])
        self.assertEqual(self.check(one), tuple((line(root), root) for root in range(1, 11)))

    def test_times_that_are_far_apart(self):
        one = times(line(1), power(line(2), 4), power(line(3), 10))
        self.assertEqual(self.check(one), ((line(1), 1), (line(2), 4), (line(3), 10)))

    def test_products_by_chance(self):
        chance = random.Random(8)
        for _ in range(40):
            counts = [chance.choice([0, 0, 1, 1, 2, 3]) for _ in FACTORS]
            one = times(poly(chance_fraction(chance) or 1), *[power(f, k) for f, k in zip(FACTORS, counts)])
            told = self.check(one)
            wanted = []
            for many in sorted(set(counts) - {0}):
                wanted.append((times(*[f for f, k in zip(FACTORS, counts) if k == many]), many))
            self.assertEqual(told, tuple(wanted))

    def test_numbers_alone_have_none(self):
        for number in (1, -1, Fraction(999999, 7)):
            self.assertEqual(parts_of(poly(number)), ())

    def test_great_ones(self):
        for one in GREAT:
            self.check(one)
        self.check(times(GREAT[-3], GREAT[-3]))
        self.check(times(GREAT[-1], GREAT[3], GREAT[3]))


class Asked(Case):
    def test_by_place_and_by_name_again_and_again(self):
        chance = random.Random(9)
        asked = []
        for one, other in [(SMALL[9], SMALL[-1]), (GREAT[-1], GREAT[-3]), (GREAT[4], SMALL[-2]), (ONE, poly(2))]:
            for function in (poly_plus, poly_less, poly_times, poly_divisor):
                asked.append((function, {"one": one, "other": other}, is_poly, True))
            asked.append((poly_divided, {"one": one, "other": other}, lambda told: type(told) is tuple, True))
            asked.append((slope_of, {"poly": one}, is_poly, True))
            asked.append((value_at, {"poly": one, "at": pair(chance_fraction(chance))}, is_fraction, True))
            asked.append((parts_of, {"poly": one}, lambda told: is_pairs(told, is_poly, is_whole), True))
        check_asked(self, asked)


if __name__ == "__main__":
    unittest.main()
