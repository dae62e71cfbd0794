"""[14] and [15], and of [3] what it says of closed walks: walks, their sums, and the polynomials that these tell."""

import itertools
import random
import unittest
from fractions import Fraction

from tests.helpers import (
    by_roots,
    chance_fraction,
    chance_poly,
    chance_web,
    check_asked,
    cube_web,
    full_web,
    is_fraction,
    is_poly,
    is_row_of,
    is_table,
    is_whole,
    numbers_of,
    pair,
    path_web,
    poly,
    ring_web,
    some_webs,
    times,
    web_of,
)
from webtones.roots.polynomials import poly_times
from webtones.roots.roots import roots_of
from webtones.webs.tones import determinant, poly_of, put_into
from webtones.webs.walks import closed_walks, poly_by_sums, sums_by_poly, walks_of


def by_going(table, many, first, last):
    """The sum over all walks, place by place."""
    total = 0
    for between in itertools.product(range(len(table)), repeat=many - 1):
        weight = 1
        way = (first, *between, last)
        for one, other in zip(way, way[1:]):
            weight *= table[one][other]
        total += weight
    return total


def by_steps(table, many):
    """The sums row by row, by one tie at a time."""
    size = len(table)
    rows = []
    for first in range(size):
        sums = [int(place == first) for place in range(size)]
        for _ in range(many):
            sums = [sum(sums[one] * table[one][other] for one in range(size)) for other in range(size)]
        rows.append(tuple(sums))
    return tuple(rows)


class Walks(unittest.TestCase):
    def check(self, web, many):
        told = walks_of(web, many)
        self.assertTrue(is_table(told), told)
        self.assertEqual(told, by_steps(web[1], many))
        closed = closed_walks(web, many)
        self.assertTrue(is_whole(closed), closed)
        self.assertEqual(closed, sum(told[at][at] for at in range(len(told))))

    def test_all(self):
        for web in some_webs():
            for many in (0, 1, 2, 3, 7, 40):
                self.check(web, many)

    def test_every_number_of_ties(self):
        chance = random.Random(30)
        for places in (1, 3, 8):
            web = chance_web(chance, places)
            for many in range(41):
                self.check(web, many)

    def test_by_going(self):
        chance = random.Random(31)
        for places in range(1, 5):
            for web in (chance_web(chance, places, -3, 3), full_web(places), chance_web(chance, places)):
                for many in range(1, 5):
                    told = walks_of(web, many)
                    for first in range(places):
                        for last in range(places):
                            self.assertEqual(told[first][last], by_going(web[1], many, first, last))

    def test_no_ties_and_one(self):
        for web in some_webs():
            size = len(web[0])
            ones = tuple(tuple(int(at == beside) for beside in range(size)) for at in range(size))
            self.assertEqual(walks_of(web, 0), ones)
            self.assertEqual(closed_walks(web, 0), size)
            self.assertEqual(walks_of(web, 1), web[1])

    def test_by_hand(self):
        self.assertEqual(walks_of(path_web(3), 2), ((1, 0, 1), (0, 2, 0), (1, 0, 1)))
        self.assertEqual(closed_walks(path_web(3), 2), 4)
        self.assertEqual(closed_walks(path_web(3), 3), 0)
        self.assertEqual(closed_walks(full_web(3), 3), 6)
        self.assertEqual(closed_walks(cube_web(), 40), 2 * 3**40 + 6)

    def test_a_place_with_itself(self):
        self.assertEqual(walks_of((("a",), ((-3,),)), 3), ((-27,),))
        self.assertEqual(closed_walks((("a",), ((-3,),)), 40), 3**40)
        self.assertEqual(closed_walks(web_of("ab", {(0, 0): 2, (1, 1): -2}), 3), 0)

    def test_places_alone(self):
        web = web_of("abc", {(0, 1): 5})
        self.assertEqual(walks_of(web, 4), ((625, 0, 0), (0, 625, 0), (0, 0, 0)))
        self.assertEqual(walks_of(web_of("abc", {}), 1), ((0, 0, 0),) * 3)
        self.assertEqual(walks_of((("a",), ((0,),)), 0), ((1,),))

    def test_greatest(self):
        every = web_of("abcdefgh", {two: -99 for two in itertools.combinations_with_replacement(range(8), 2)})
        self.assertEqual(closed_walks(every, 40), 792**40)
        self.assertEqual(walks_of(every, 39), ((-(99**39) * 8**38,) * 8,) * 8)

    def test_told_tables_handed_on(self):
        table = walks_of(full_web(4), 10)
        self.assertEqual(put_into(poly_of(table), table), (((0, 1),) * 4,) * 4)
        self.assertEqual(determinant(table), determinant(full_web(4)[1]) ** 10)


class PolyBySums(unittest.TestCase):
    def assert_poly(self, sums, wanted):
        told = poly_by_sums(tuple(pair(number) for number in sums))
        self.assertTrue(is_poly(told), told)
        self.assertEqual(told[-1], (1, 1))
        self.assertEqual(told, wanted)

    def test_no_sums(self):
        self.assertEqual(poly_by_sums(()), poly(1))

    def test_by_hand(self):
        self.assert_poly([5], poly(-5, 1))
        self.assert_poly([0], poly(0, 1))
        self.assert_poly([Fraction(-2, 3)], poly(Fraction(2, 3), 1))
        self.assert_poly([3, 5], by_roots(1, 2))
        self.assert_poly([0, -2], poly(1, 0, 1))
        self.assert_poly([0, 0, 3], poly(-1, 0, 0, 1))
        self.assert_poly([1, 0], poly(Fraction(1, 2), -1, 1))
        self.assert_poly([0] * 10, poly(*[0] * 10, 1))

    def test_webs(self):
        for web in some_webs():
            sums = [closed_walks(web, many) for many in range(1, len(web[0]) + 1)]
            self.assert_poly(sums, poly_of(web[1]))

    def test_known_roots(self):
        chance = random.Random(32)
        for many in range(1, 11):
            for figures in (1, 3, 6):
                roots = [chance_fraction(chance, figures) for _ in range(many)]
                sums = [sum(root**power for root in roots) for power in range(1, many + 1)]
                self.assert_poly(sums, by_roots(*roots))

    def test_sums_that_no_web_has_and_back(self):
        chance = random.Random(33)
        for many in range(1, 11):
            for figures in (1, 2, 6, 12, 30):
                sums = tuple(pair(chance_fraction(chance, figures)) for _ in range(many))
                told = poly_by_sums(sums)
                self.assertTrue(is_poly(told), told)
                self.assertEqual(len(told), many + 1)
                self.assertEqual(told[-1], (1, 1))
                self.assertEqual(sums_by_poly(told, many), sums)

    def test_the_roots_of_what_is_told(self):
        chance = random.Random(34)
        for many in (3, 10):
            told = poly_by_sums(tuple(pair(chance_fraction(chance, 6)) for _ in range(many)))
            self.assertLessEqual(sum(times_of for _, times_of in roots_of(told)), many)


class SumsByPoly(unittest.TestCase):
    def check(self, polynomial, many):
        told = sums_by_poly(polynomial, many)
        self.assertTrue(is_row_of(told, is_fraction), told)
        self.assertEqual(len(told), many)
        return told

    def by_table(self, polynomial, many):
        """The sums by the table whose last row is the polynomial, and that shifts by one else."""
        numbers = [-number for number in numbers_of(polynomial)[:-1]]
        size = len(numbers)
        table = [[Fraction(at + 1 == beside) for beside in range(size)] for at in range(size - 1)] + [numbers]
        product = [[Fraction(at == beside) for beside in range(size)] for at in range(size)]
        sums = []
        for _ in range(many):
            product = [[sum(a * b for a, b in zip(row, column)) for column in zip(*table)] for row in product]
            sums.append(pair(sum(product[at][at] for at in range(size))))
        return tuple(sums)

    def test_none(self):
        for polynomial in (poly(3, 1), poly(0, 0, 1), poly_of(cube_web()[1])):
            self.assertEqual(sums_by_poly(polynomial, 0), ())

    def test_webs(self):
        for web in some_webs():
            for many in (1, len(web[0]), 12):
                told = self.check(poly_of(web[1]), many)
                self.assertEqual(told, tuple((closed_walks(web, ties), 1) for ties in range(1, many + 1)))

    def test_to_forty(self):
        for web in (ring_web(8), cube_web(), chance_web(random.Random(35), 8)):
            told = self.check(poly_of(web[1]), 40)
            self.assertEqual(told, tuple((closed_walks(web, ties), 1) for ties in range(1, 41)))

    def test_fewer_and_more_than_the_degree(self):
        chance = random.Random(36)
        for degree in range(1, 11):
            polynomial = poly(*numbers_of(chance_poly(chance, degree, 2))[:-1], 1)
            wanted = self.by_table(polynomial, 15)
            for many in range(16):
                self.assertEqual(self.check(polynomial, many), wanted[:many])

    def test_noughts_within(self):
        self.assertEqual(self.check(poly(-1, 0, 0, 1), 7), ((0, 1), (0, 1), (3, 1)) * 2 + ((0, 1),))
        self.assertEqual(self.check(poly(0, 0, 1), 3), ((0, 1),) * 3)
        self.assertEqual(self.check(poly(0, -2, 1), 5), tuple((2**ties, 1) for ties in range(1, 6)))

    def test_and_back(self):
        chance = random.Random(37)
        for degree in range(1, 11):
            polynomial = poly(*numbers_of(chance_poly(chance, degree))[:-1], 1)
            self.assertEqual(poly_by_sums(self.check(polynomial, degree)), polynomial)

    def test_greatest(self):
        chance = random.Random(38)
        polynomial = poly(*numbers_of(chance_poly(chance, 10))[:-1], 1)
        told = self.check(polynomial, 40)
        self.assertEqual(told[:12], self.by_table(polynomial, 12))
        self.assertEqual(poly_by_sums(told[:10]), polynomial)

    def test_told_polynomials_handed_on(self):
        one, other = by_roots(*range(1, 11)), by_roots(*[Fraction(1, k) for k in range(2, 12)])
        told = self.check(poly_times(one, other), 25)
        both = zip(self.check(one, 25), self.check(other, 25))
        self.assertEqual(told, tuple(pair(Fraction(*left) + Fraction(*right)) for left, right in both))
        self.assertEqual(self.check(times(one, other), 3), told[:3])


class Asked(unittest.TestCase):
    def test_by_place_and_by_name_again_and_again(self):
        asked = []
        for web in some_webs():
            asked.append((walks_of, {"web": web, "many": 3}, is_table, True))
            asked.append((closed_walks, {"web": web, "many": 4}, is_whole, True))
            polynomial = poly_of(web[1])
            asked.append((sums_by_poly, {"poly": polynomial, "many": 5}, lambda told: is_row_of(told, is_fraction), True))
            asked.append((poly_by_sums, {"sums": sums_by_poly(polynomial, len(web[0]))}, is_poly, True))
        check_asked(self, asked)


if __name__ == "__main__":
    unittest.main()
