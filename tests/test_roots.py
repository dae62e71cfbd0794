"""[7], [8] and [9]: roots counted, told in stretches, and stretches made narrower."""

import random
import unittest
from fractions import Fraction

from tests.helpers import (
    all_count,
    by_roots,
    chance_fraction,
    chance_poly,
    check_asked,
    is_pairs,
    is_stretch,
    is_whole,
    line,
    lone_part,
    pair,
    poly,
    power,
    sturm_chain,
    sturm_count,
    times,
    turns_at,
    value,
)
from webtones.roots.polynomials import parts_of, poly_times
from webtones.roots.roots import narrowed, roots_between, roots_of

TWO = poly(-2, 0, 1)
NO_ROOTS = poly(1, 0, 1)
TINY = Fraction(1, 10**12)

# Two roots on either side of 1 over 999, no farther from one another than about 10 to the power -18.
CLOSE = poly(-2, 2 * 2 * 999, -2 * 999**2, 0, 0, 0, 0, 0, 0, 0, 1)


def some_polys():
    chance = random.Random(10)
    told = [
        poly(7), poly(Fraction(-1, 3)), line(0), line(Fraction(-5, 7)), TWO, NO_ROOTS, poly(-3, 0, 1), poly(-1, -1, 1),
        poly(0, 0, 0, 1), poly(0, -2, 0, 1), times(TWO, TWO), times(TWO, NO_ROOTS, line(1)), CLOSE,
        by_roots(1, 2, 3, 4, 5, 6, 7, 8, 9, 10), by_roots(-1, 0, Fraction(1, 2), Fraction(1, 3), Fraction(1, 3)),
        times(power(line(2), 3), power(poly(-3, 0, 1), 2), poly(1, 1, 1)),
        times(TWO, poly(-3, 0, 1), poly(-5, 0, 1), line(Fraction(7, 5)), line(Fraction(3, 2)), line(0)),
        by_roots(0, TINY, -TINY, 2 * TINY), by_roots(*[Fraction(1, k) for k in range(1, 11)]),
        poly(-1, 0, 0, 0, 0, 0, 0, 0, 0, 0, 1024), poly(-2, 0, 0, 1), poly(2, 0, 0, 0, 0, 0, 0, 0, 0, 1),
        times(line(Fraction(1414213562373, 10**12)), TWO, line(Fraction(1414213562374, 10**12))),
        poly(-1, 10**6, 0, 0, 0, 0, 0, 0, 0, 0, Fraction(-1, 999999)),
    ]
    told += [chance_poly(chance, degree) for degree in range(1, 11)]
    told += [chance_poly(chance, 10) for _ in range(5)]
    told += [chance_poly(chance, chance.randint(1, 6), 1) for _ in range(40)]
    for _ in range(15):
        roots = [chance_fraction(chance, 2) for _ in range(chance.randint(1, 5))]
        told.append(times(by_roots(*roots), poly(-chance.randint(1, 9), chance.randint(-3, 3), chance.randint(1, 3))))
    told += [times(told[-1], told[-2]), times(told[30], told[31]), poly_times(poly_times(TWO, told[33]), TWO)]
    return told


POLYS = some_polys()


class Counted(unittest.TestCase):
    def assert_count(self, polynomial, low, high, wanted):
        told = roots_between(polynomial, pair(low), pair(high))
        self.assertTrue(is_whole(told), told)
        self.assertEqual(told, wanted, (polynomial, low, high))

    def test_by_another_way(self):
        chance = random.Random(11)
        for polynomial in POLYS:
            chain = sturm_chain(lone_part(polynomial))
            ends = [chance_fraction(chance, figures) for figures in (1, 1, 2, 12)]
            ends += [Fraction(0), Fraction(1), Fraction(-10**12), Fraction(10**12 - 1), Fraction(1, 999)]
            for low in ends:
                for high in ends:
                    wanted = turns_at(chain, low) - turns_at(chain, high) if low < high else 0
                    self.assert_count(polynomial, low, high, wanted)

    def test_roots_at_an_end(self):
        polynomial = by_roots(1, 2, 3)
        self.assert_count(polynomial, 1, 3, 2)
        self.assert_count(polynomial, 0, 3, 3)
        self.assert_count(polynomial, 1, 2, 1)
        self.assert_count(polynomial, 3, 4, 0)
        self.assert_count(polynomial, 0, 1, 1)
        self.assert_count(polynomial, Fraction(1, 2), 1, 1)
        self.assert_count(polynomial, 1, Fraction(3, 2), 0)
        self.assert_count(times(polynomial, TWO), 1, 2, 2)
        self.assert_count(line(Fraction(1, 3)), Fraction(1, 3), 1, 0)
        self.assert_count(line(Fraction(1, 3)), 0, Fraction(1, 3), 1)

    def test_each_root_once(self):
        for many in range(1, 11):
            self.assert_count(power(line(2), many), 1, 2, 1)
            self.assert_count(power(line(2), many), 1, 3, 1)
            self.assert_count(power(line(2), many), 2, 3, 0)
        self.assert_count(times(power(TWO, 3), power(line(1), 2)), 0, 2, 2)

    def test_low_no_less_than_high(self):
        for polynomial in (line(0), TWO, by_roots(1, 2, 3), poly(5)):
            for low, high in ((0, 0), (1, 0), (2, -2), (3, 1), (Fraction(1, 3), Fraction(1, 3))):
                self.assert_count(polynomial, low, high, 0)

    def test_none(self):
        self.assert_count(NO_ROOTS, -10**12, 10**12, 0)
        self.assert_count(poly(7), -10**12, 10**12, 0)
        self.assert_count(poly(Fraction(-1, 7)), 0, 1, 0)
        self.assert_count(TWO, -1, 1, 0)

    def test_ends_of_twelve_figures(self):
        low = Fraction(1414213562373, 10**12)
        self.assert_count(TWO, low, low + TINY, 1)
        self.assert_count(TWO, low - TINY, low, 0)
        self.assert_count(TWO, Fraction(-999999999999), Fraction(999999999999), 2)
        self.assert_count(line(Fraction(999999999999, 10**12)), Fraction(999999999998, 10**12), 1, 1)

    def test_roots_very_close_to_one_another(self):
        self.assert_count(CLOSE, Fraction(1, 1000), Fraction(1, 998), 2)
        self.assert_count(CLOSE, Fraction(1, 999), Fraction(1, 998), 1)
        self.assert_count(CLOSE, Fraction(1, 1000), Fraction(1, 999), 1)
        self.assert_count(by_roots(0, TINY, 2 * TINY), 0, TINY, 1)
        self.assert_count(by_roots(0, TINY, 2 * TINY), -TINY, 2 * TINY, 3)
        self.assert_count(times(TWO, line(Fraction(1414213562373, 10**12))), 1, 2, 2)


class Told(unittest.TestCase):
    def check(self, polynomial):
        told = roots_of(polynomial)
        self.assertTrue(is_pairs(told, is_stretch, is_whole), told)
        chain = sturm_chain(lone_part(polynomial))
        self.assertEqual(len(told), all_count(polynomial))
        parts = [(part, sturm_chain(part), many) for part, many in parts_of(polynomial)]
        before = None
        for (low, high), many in told:
            low, high = Fraction(*low), Fraction(*high)
            if before is not None:
                self.assertLess(before, low)
            before = high
            if low == high:
                self.assertEqual(value(polynomial, low), 0)
                self.assertEqual([number for part, _, number in parts if value(part, low) == 0], [many])
            else:
                self.assertNotEqual(value(polynomial, low), 0)
                self.assertNotEqual(value(polynomial, high), 0)
                self.assertEqual(turns_at(chain, low) - turns_at(chain, high), 1)
                of_parts = [number for _, row, number in parts if turns_at(row, low) != turns_at(row, high)]
                self.assertEqual(of_parts, [many])
        return told

    def test_all(self):
        for polynomial in POLYS:
            with self.subTest(polynomial=polynomial):
                self.check(polynomial)

    def exact(self, polynomial):
        return [(Fraction(*low), many) for (low, high), many in self.check(polynomial) if low == high]

    def test_fractions_are_both_ends(self):
        for root in (0, 5, -7, Fraction(1, 3), Fraction(-22, 7), Fraction(999999, 999998), Fraction(1, 1024)):
            self.assertEqual(roots_of(line(root)), (((pair(root), pair(root)), 1),))
            self.assertEqual(roots_of(times(poly(Fraction(-5, 9)), line(root))), (((pair(root), pair(root)), 1),))

    def test_fractions_amid_others(self):
        roots = [Fraction(7, 5), Fraction(3, 2), Fraction(-141, 100), Fraction(0)]
        polynomial = times(by_roots(*roots), TWO, poly(-3, 0, 1), NO_ROOTS)
        self.assertEqual(self.exact(polynomial), [(root, 1) for root in sorted(roots)])
        self.assertEqual(len(roots_of(polynomial)), 8)

    def test_fractions_by_chance(self):
        chance = random.Random(12)
        for _ in range(60):
            roots = {}
            for _ in range(chance.randint(1, 4)):
                roots[chance_fraction(chance, chance.choice([1, 2, 6]))] = chance.randint(1, 2)
            factor = poly(-chance.choice([2, 3, 5, 6, 7]), 0, chance.choice([1, 1, 4, 9]))
            last = poly(chance_fraction(chance) or 1)
            polynomial = times(last, factor, *[power(line(root), many) for root, many in roots.items()])
            self.assertEqual(self.exact(polynomial), sorted(roots.items()))

    def test_whole_roots_with_many_primes_between(self):
        roots = list(range(-10, 0)) + list(range(20, 30))
        self.assertEqual(self.exact(by_roots(*roots)), [(root, 1) for root in roots])
        roots = [0, 2 * 3 * 5 * 7 * 11 * 13, -17 * 19 * 23 * 29]
        self.assertEqual(self.exact(by_roots(*roots)), [(root, 1) for root in sorted(roots)])

    def test_x_x_less_2_and_its_like(self):
        for number in (2, 3, 5, 8, 99, Fraction(1, 2), Fraction(2, 9), 10**6 - 1, Fraction(1, 999998)):
            told = self.check(poly(-number, 0, 1))
            self.assertEqual(len(told), 2)
            for (low, high), many in told:
                self.assertNotEqual(low, high)
                self.assertEqual(many, 1)
        for number in (4, 9, Fraction(1, 4), Fraction(49, 100)):
            self.assertEqual(len(self.exact(poly(-number, 0, 1))), 2)

    def test_times(self):
        polynomial = times(power(TWO, 3), power(line(0), 2), poly(-3, 0, 1))
        self.assertEqual([many for _, many in self.check(polynomial)], [1, 3, 2, 3, 1])
        self.assertEqual([many for _, many in self.check(power(poly(-1, -1, 1), 5))], [5, 5])
        self.assertEqual(self.exact(power(line(Fraction(2, 3)), 10)), [(Fraction(2, 3), 10)])

    def test_no_roots(self):
        for polynomial in (NO_ROOTS, poly(1), poly(Fraction(-7, 3)), power(NO_ROOTS, 5), poly(1, 1, 1)):
            self.assertEqual(roots_of(polynomial), ())

    def test_roots_next_to_fractions(self):
        near = Fraction(1414213562373095048801688, 10**24)
        self.assertEqual(self.exact(times(TWO, line(near))), [(near, 1)])
        self.assertEqual(len(self.check(CLOSE)), all_count(CLOSE))

    def test_told_polynomials_of_greater_degrees(self):
        chance = random.Random(13)
        one, other = chance_poly(chance, 10), chance_poly(chance, 9)
        self.check(poly_times(one, other))
        self.check(poly_times(poly_times(one, TWO), poly_times(TWO, one)))
        self.check(poly_times(by_roots(*range(10)), by_roots(*[Fraction(k, 7) for k in range(1, 11)])))
        self.check(times(*[power(line(root), root) for root in range(1, 9)]))


class Narrowed(unittest.TestCase):
    WIDTHS = [Fraction(10**6), Fraction(1), Fraction(3, 7), Fraction(1, 1000), TINY, Fraction(1, 10**60)]

    def check(self, polynomial, stretch, width):
        told = narrowed(polynomial, stretch, pair(width))
        self.assertTrue(is_stretch(told), told)
        old_low, old_high = Fraction(*stretch[0]), Fraction(*stretch[1])
        low, high = Fraction(*told[0]), Fraction(*told[1])
        self.assertLessEqual(old_low, low)
        self.assertLessEqual(high, old_high)
        self.assertLessEqual(high - low, width)
        if stretch[0] == stretch[1]:
            self.assertEqual(told, stretch)
        else:
            self.assertLess(low, high)
            self.assertNotEqual(value(polynomial, low), 0)
            self.assertEqual(sturm_count(polynomial, low, high), 1)
            self.assertNotEqual(value(polynomial, high), 0)
        return told

    def test_told_stretches_of_all(self):
        for polynomial in POLYS:
            for stretch, _ in roots_of(polynomial):
                for width in (Fraction(1, 2), TINY):
                    self.check(polynomial, stretch, width)

    def test_widths(self):
        for polynomial in (TWO, times(TWO, TWO, line(0)), POLYS[16], CLOSE):
            for stretch, _ in roots_of(polynomial):
                for width in self.WIDTHS:
                    self.check(polynomial, stretch, width)

    def test_narrower_again_and_again(self):
        for polynomial in (TWO, poly(-1, -1, 1), power(poly(-3, 0, 1), 4)):
            stretch = roots_of(polynomial)[-1][0]
            for width in self.WIDTHS:
                stretch = self.check(polynomial, stretch, width)
            self.assertLessEqual(Fraction(*stretch[1]) - Fraction(*stretch[0]), Fraction(1, 10**60))

    def test_other_stretches_of_the_kind(self):
        for low, high in ((0, 2), (-1, 10**6), (0, 10**12 - 1), (Fraction(-141, 100), Fraction(3, 2)), (1, 100)):
            for polynomial in (TWO, power(TWO, 2), times(TWO, line(-2))):
                for width in self.WIDTHS:
                    self.check(polynomial, (pair(low), pair(high)), width)
                    if polynomial != times(TWO, line(-2)):
                        self.check(polynomial, (pair(-high), pair(-low)), width)

    def test_a_stretch_that_is_narrow_enough_stays_one(self):
        stretch = (pair(Fraction(7, 5)), pair(Fraction(10, 7)))
        self.check(TWO, stretch, Fraction(10, 7) - Fraction(7, 5))

    def test_a_stretch_of_a_fraction(self):
        for polynomial in (line(Fraction(3, 7)), times(TWO, power(line(Fraction(3, 7)), 2))):
            for width in self.WIDTHS:
                self.assertEqual(narrowed(polynomial, ((3, 7), (3, 7)), pair(width)), ((3, 7), (3, 7)))

    def test_a_wider_stretch_of_a_fraction_is_told_as_the_root_itself(self):
        for polynomial in (line(Fraction(3, 7)), times(poly(-5, 0, 1), power(line(Fraction(3, 7)), 2))):
            for width in self.WIDTHS:
                self.assertEqual(narrowed(polynomial, ((0, 1), (2, 1)), pair(width)), ((3, 7), (3, 7)))

    def test_a_root_taken_an_even_number_of_times(self):
        polynomial = times(power(TWO, 2), power(poly(-3, 0, 1), 4), power(line(0), 2))
        for stretch, _ in roots_of(polynomial):
            for width in self.WIDTHS:
                self.check(polynomial, stretch, width)


class Asked(unittest.TestCase):
    def test_by_place_and_by_name_again_and_again(self):
        asked = []
        for polynomial in POLYS[2:]:
            asked.append((roots_of, {"poly": polynomial}, lambda told: is_pairs(told, is_stretch, is_whole), True))
            asked.append((roots_between, {"poly": polynomial, "low": (-1, 2), "high": (7, 3)}, is_whole, True))
            for stretch, _ in roots_of(polynomial)[:2]:
                arguments = {"poly": polynomial, "stretch": stretch, "width": (1, 9)}
                asked.append((narrowed, arguments, is_stretch, True))
        check_asked(self, asked)


if __name__ == "__main__":
    unittest.main()
