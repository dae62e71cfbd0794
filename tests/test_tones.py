"""[12] and [13], and of [3] what it says of tones: polynomials of tables, tones, determinants, tables put into."""

import itertools
import random
import unittest
from fractions import Fraction

from tests.helpers import (
    by_roots,
    chance_poly,
    chance_table,
    chance_web,
    check_asked,
    cube_web,
    full_web,
    is_fraction,
    is_pairs,
    is_poly,
    is_stretch,
    is_table,
    is_whole,
    numbers_of,
    path_web,
    poly,
    power,
    ring_web,
    some_webs,
    star_web,
    times,
    web_of,
)
from webtones.roots.compared import compared_roots, compared_with
from webtones.roots.polynomials import poly_times, value_at
from webtones.roots.roots import roots_of
from webtones.webs.tones import determinant, poly_of, put_into, tones_of


def by_orders(table):
    """The determinant as the sum over all orders."""
    many = len(table)
    total = 0
    for order in itertools.permutations(range(many)):
        turned = sum(order[one] > order[other] for one in range(many) for other in range(one + 1, many))
        product = (-1) ** turned
        for at in range(many):
            product *= table[at][order[at]]
        total += product
    return total


def by_rows(table):
    """The determinant by clearing columns, of whole numbers or fractions."""
    rows = [[Fraction(number) for number in row] for row in table]
    told = Fraction(1)
    for at in range(len(rows)):
        found = next((row for row in range(at, len(rows)) if rows[row][at] != 0), None)
        if found is None:
            return Fraction(0)
        if found != at:
            rows[at], rows[found] = rows[found], rows[at]
            told = -told
        told *= rows[at][at]
        for row in range(at + 1, len(rows)):
            factor = rows[row][at] / rows[at][at]
            rows[row] = [left - factor * right for left, right in zip(rows[row], rows[at])]
    return told


def turned_table(table, number):
    """The number from corner to corner, less the table."""
    return [[number * (at == beside) - weight for beside, weight in enumerate(row)] for at, row in enumerate(table)]


def some_tables():
    chance = random.Random(20)
    for many in range(1, 9):
        yield tuple((0,) * many for _ in range(many))
        yield tuple((1,) * many for _ in range(many))
        yield tuple((-99,) * many for _ in range(many))
        yield tuple(tuple(99 if at == beside else 0 for beside in range(many)) for at in range(many))
        yield tuple(tuple(1 if (at + 1) % many == beside else 0 for beside in range(many)) for at in range(many))
        for _ in range(4):
            yield chance_table(chance, many)
            yield chance_table(chance, many, -1, 1)
            yield chance_web(chance, many)[1]


TABLES = list(some_tables())


class Polynomials(unittest.TestCase):
    def test_all_values(self):
        for table in TABLES:
            told = poly_of(table)
            self.assertTrue(is_poly(told), told)
            self.assertEqual(len(told), len(table) + 1)
            self.assertEqual(told[-1], (1, 1))
            self.assertTrue(all(below == 1 for _, below in told))
            for at in range(-1, len(table) + 1):
                self.assertEqual(Fraction(*value_at(told, (at, 1))), by_rows(turned_table(table, at)))

    def test_by_hand(self):
        self.assertEqual(poly_of(((5,),)), poly(-5, 1))
        self.assertEqual(poly_of(((0,),)), poly(0, 1))
        self.assertEqual(poly_of(((1, 2), (3, 4))), poly(-2, -5, 1))
        self.assertEqual(poly_of(((0, 1), (0, 0))), poly(0, 0, 1))
        self.assertEqual(poly_of(((0, 1, 0), (0, 0, 1), (6, -11, 6))), by_roots(1, 2, 3))

    def test_turned_about_it_is_the_same(self):
        for table in TABLES:
            self.assertEqual(poly_of(tuple(zip(*table))), poly_of(table))

    def test_greatest(self):
        table = tuple(tuple(99 * (-1) ** (at * beside // 2) for beside in range(8)) for at in range(8))
        self.assertEqual(value_at(poly_of(table), (7, 1)), (by_rows(turned_table(table, 7)), 1))


class Tones(unittest.TestCase):
    def check(self, web):
        told = tones_of(web)
        self.assertTrue(is_pairs(told, is_stretch, is_whole), told)
        self.assertEqual(sum(many for _, many in told), len(web[0]))
        self.assertEqual(told, roots_of(poly_of(web[1])))
        return told

    def assert_tones(self, web, wanted):
        """wanted: pairs (root, times), the root a fraction, or a polynomial's root (polynomial, number)."""
        told = self.check(web)
        self.assertEqual([many for _, many in told], [many for _, many in wanted])
        polynomial = poly_of(web[1])
        for number, (root, _) in enumerate(wanted):
            low, high = told[number][0]
            if isinstance(root, tuple):
                self.assertNotEqual(low, high)
                self.assertEqual(compared_roots(polynomial, number, *root), 0)
            else:
                self.assertEqual((low, high), ((root, 1), (root, 1)))
                self.assertEqual(compared_with(polynomial, number, (root, 1)), 0)

    def test_times_come_to_how_many_places_there_are(self):
        for web in some_webs():
            self.check(web)

    def test_one_place(self):
        for weight in (-99, -1, 0, 1, 99):
            self.assert_tones((("a",), ((weight,),)), [(weight, 1)])

    def test_no_ties(self):
        for many in range(1, 9):
            self.assert_tones(web_of("abcdefgh"[:many], {}), [(0, many)])

    def test_full_webs(self):
        for many in range(2, 9):
            self.assert_tones(full_web(many), [(-1, many - 1), (many - 1, 1)])

    def test_stars(self):
        self.assert_tones(star_web(5), [(-2, 1), (0, 3), (2, 1)])
        for many in (3, 4, 6, 7, 8):
            root = poly(1 - many, 0, 1)
            self.assert_tones(star_web(many), [((root, 0), 1), (0, many - 2), ((root, 1), 1)])

    def test_rings_and_paths(self):
        two, golden = poly(-2, 0, 1), poly(-1, -1, 1)
        self.assert_tones(ring_web(4), [(-2, 1), (0, 2), (2, 1)])
        self.assert_tones(ring_web(5), [((poly(-1, 1, 1), 0), 2), ((poly(-1, 1, 1), 1), 2), (2, 1)])
        self.assert_tones(ring_web(6), [(-2, 1), (-1, 2), (1, 2), (2, 1)])
        self.assert_tones(ring_web(8), [(-2, 1), ((two, 0), 2), (0, 2), ((two, 1), 2), (2, 1)])
        self.assert_tones(path_web(3), [((two, 0), 1), (0, 1), ((two, 1), 1)])
        four = times(golden, poly(-1, 1, 1))
        self.assert_tones(path_web(4), [((four, number), 1) for number in range(4)])

    def test_the_cube(self):
        self.assert_tones(cube_web(), [(-3, 1), (-1, 3), (1, 3), (3, 1)])

    def test_great_weights(self):
        self.assert_tones(web_of("ab", {(0, 1): 99}), [(-99, 1), (99, 1)])
        self.assert_tones(web_of("ab", {(0, 0): 99, (1, 1): -99}), [(-99, 1), (99, 1)])
        every = web_of("abcdefgh", {two: -99 for two in itertools.combinations_with_replacement(range(8), 2)})
        self.assert_tones(every, [(-792, 1), (0, 7)])

    def test_any_two_tones_are_told_less_the_same_or_greater(self):
        chance = random.Random(21)
        for many in (3, 5, 8):
            one, other = chance_web(chance, many), chance_web(chance, many)
            left, right = poly_of(one[1]), poly_of(other[1])
            for number in range(len(tones_of(one))):
                signs = [compared_roots(left, number, right, beside) for beside in range(len(tones_of(other)))]
                self.assertEqual(signs, sorted(signs, reverse=True))
                own = [compared_roots(left, number, left, beside) for beside in range(len(tones_of(one)))]
                self.assertEqual(own, [1] * number + [0] + [-1] * (len(own) - number - 1))


class Determinants(unittest.TestCase):
    def assert_determinant(self, table, wanted):
        told = determinant(table)
        self.assertTrue(is_whole(told), told)
        self.assertEqual(told, wanted)

    def test_all(self):
        for table in TABLES:
            self.assert_determinant(table, by_rows(table))
            if len(table) <= 5:
                self.assert_determinant(table, by_orders(table))

    def test_one_row(self):
        for number in (-99, 0, 99):
            self.assert_determinant(((number,),), number)

    def test_noughts_in_the_corner(self):
        self.assert_determinant(((0, 2), (3, 4)), -6)
        self.assert_determinant(((0, 0, 2), (0, 3, 4), (5, 6, 7)), -30)
        self.assert_determinant(((0, 1, 2), (3, 0, 5), (6, 7, 0)), 72)
        self.assert_determinant(((0, 0, 1, 0), (0, 0, 0, 1), (1, 0, 0, 0), (0, 1, 0, 0)), 1)

    def test_rows_alike(self):
        self.assert_determinant(((1, 2), (1, 2)), 0)
        self.assert_determinant(((1, 2, 3), (4, 5, 6), (1, 2, 3)), 0)
        self.assert_determinant(((1, 2, 3), (-1, -2, -3), (9, 2, 3)), 0)

    def test_two_rows_changed_with_one_another(self):
        chance = random.Random(22)
        for many in range(2, 9):
            table = chance_table(chance, many)
            self.assert_determinant((table[1], table[0]) + table[2:], -determinant(table))


def table_product(one, other):
    return [[sum(left * right for left, right in zip(row, column)) for column in zip(*other)] for row in one]


def put_by_powers(polynomial, table):
    many = len(table)
    product = [[Fraction(at == beside) for beside in range(many)] for at in range(many)]
    told = [[Fraction(0)] * many for _ in range(many)]
    for number in numbers_of(polynomial):
        told = [[left + number * right for left, right in zip(*rows)] for rows in zip(told, product)]
        product = table_product(product, table)
    return tuple(tuple((one.numerator, one.denominator) for one in row) for row in told)


class PutInto(unittest.TestCase):
    def assert_put(self, polynomial, table):
        told = put_into(polynomial, table)
        self.assertTrue(is_table(told, is_fraction), told)
        self.assertEqual(told, put_by_powers(polynomial, table))

    def test_all(self):
        chance = random.Random(23)
        polys = [(), poly(7), poly(Fraction(-2, 3)), poly(0, 1), poly(1, 0, 1), poly(Fraction(1, 2), Fraction(1, 3), 1)]
        polys += [chance_poly(chance, degree) for degree in (1, 4, 10)]
        for table in TABLES:
            for polynomial in polys:
                self.assert_put(polynomial, table)

    def test_nought(self):
        for many in range(1, 9):
            self.assertEqual(put_into((), ((5,) * many,) * many), (((0, 1),) * many,) * many)

    def test_a_number_alone_is_that_from_corner_to_corner(self):
        self.assertEqual(put_into(poly(Fraction(2, 3)), ((7, 8), (9, 5))), (((2, 3), (0, 1)), ((0, 1), (2, 3))))

    def test_x_is_the_table(self):
        self.assertEqual(put_into(poly(0, 1), ((7, 8), (9, 5))), (((7, 1), (8, 1)), ((9, 1), (5, 1))))

    def test_the_tables_own_polynomial_gives_0(self):
        for table in TABLES:
            many = len(table)
            self.assertEqual(put_into(poly_of(table), table), (((0, 1),) * many,) * many)

    def test_a_divisor_of_its_polynomial_may_give_0_too(self):
        self.assertEqual(put_into(poly(-1, 0, 1), ((0, 1), (1, 0))), (((0, 1),) * 2,) * 2)
        self.assertNotEqual(put_into(poly(0, 1), ((0, 1), (0, 0))), (((0, 1),) * 2,) * 2)


class HandedOn(unittest.TestCase):
    def test_tables_that_were_told(self):
        table = tuple(tuple(row) for row in table_product(TABLES[-2], TABLES[-2]))
        great = tuple(tuple(row) for row in table_product(table, table))
        for one in (table, great):
            self.assertEqual(determinant(one), by_rows(one))
            self.assertEqual(Fraction(*value_at(poly_of(one), (1, 1))), by_rows(turned_table(one, 1)))
            self.assertEqual(put_into(poly_of(one), one), (((0, 1),) * 8,) * 8)
            self.assertEqual(put_into(poly(1, Fraction(1, 2)), one), put_by_powers(poly(1, Fraction(1, 2)), one))

    def test_polynomials_that_were_told(self):
        product = poly_times(chance_poly(random.Random(24), 10), poly_of(TABLES[-1]))
        self.assertEqual(put_into(product, TABLES[-1]), (((0, 1),) * 8,) * 8)
        self.assertEqual(put_into(product, TABLES[-2]), put_by_powers(product, TABLES[-2]))
        own = poly_of(full_web(8)[1])
        self.assertEqual(own, times(poly(-7, 1), power(poly(1, 1), 7)))


class Asked(unittest.TestCase):
    def test_by_place_and_by_name_again_and_again(self):
        asked = []
        for web in some_webs():
            asked.append((poly_of, {"table": web[1]}, is_poly, True))
            asked.append((determinant, {"table": web[1]}, is_whole, True))
            asked.append((tones_of, {"web": web}, lambda told: is_pairs(told, is_stretch, is_whole), True))
            arguments = {"poly": poly(1, Fraction(1, 2), 3), "table": web[1]}
            asked.append((put_into, arguments, lambda told: is_table(told, is_fraction), True))
        check_asked(self, asked)


if __name__ == "__main__":
    unittest.main()
