"""[36] and [37]: webs laid beside one another and crossed, and which kind a third polynomial is."""

import itertools
import random
import unittest
from fractions import Fraction

from tests.helpers import (
    by_roots,
    chance_web,
    check_asked,
    check_refused,
    full_web,
    is_row_of,
    is_web,
    numbers_of,
    path_web,
    poly,
    ring_web,
    times,
    web_of,
)
from webtones.alike.crossed import beside_webs, kinds_of, product_web, sum_web
from webtones.errors import NoName
from webtones.webs.tones import poly_of, tones_of
from webtones.webs.walks import closed_walks


def pairs_of_webs():
    """Pairs of webs, the products of whose numbers of places are at most 8 or not much more."""
    chance = random.Random(130)
    for one_many, other_many in ((1, 1), (1, 8), (8, 1), (2, 2), (2, 4), (4, 2), (3, 2), (2, 3), (1, 5), (3, 3), (5, 1)):
        for least, most, share in ((-1, 1, 0.9), (-99, 99, 0.7), (0, 1, 0.6)):
            one = chance_web(chance, one_many, least, most, share, ("p", "r", "ps", "q", "t", "u", "v", "w")[:one_many])
            other = chance_web(chance, other_many, least, most, share, ("m", "kk", "a", "b", "c", "d", "e", "f")[:other_many])
            yield one, other


def choices(one, other):
    return [(at, beside) for at in range(len(one[0])) for beside in range(len(other[0]))]


def binomial(many, some):
    told = 1
    for at in range(some):
        told = told * (many - at) // (at + 1)
    return told


class Beside(unittest.TestCase):
    def check(self, one, other):
        told = beside_webs(one, other)
        self.assertTrue(is_web(told), told)
        names = tuple(["a" + name for name in one[0]] + ["b" + name for name in other[0]])
        self.assertEqual(told[0], names)
        split = len(one[0])
        for at, beside in itertools.product(range(len(names)), repeat=2):
            if at < split and beside < split:
                wanted = one[1][at][beside]
            elif at >= split and beside >= split:
                wanted = other[1][at - split][beside - split]
            else:
                wanted = 0
            self.assertEqual(told[1][at][beside], wanted)
        for many in range(41 if len(names) < 4 else 8):
            self.assertEqual(closed_walks(told, many), closed_walks(one, many) + closed_walks(other, many))
        if len(names) <= 8:
            self.assertEqual(poly_of(told[1]), times(poly_of(one[1]), poly_of(other[1])))

    def test_many(self):
        for one, other in pairs_of_webs():
            self.check(one, other)

    def test_by_hand(self):
        self.assertEqual(beside_webs(web_of("ab", {(0, 1): 2, (0, 0): -1}), (("a",), ((7,),))), (
            ("aa", "ab", "ba"), ((-1, 2, 0), (2, 0, 0), (0, 0, 7)),
        ))
        self.assertEqual(beside_webs((("a",), ((0,),)), (("a",), ((0,),))), (("aa", "ba"), ((0, 0), (0, 0))))

    def test_a_web_with_itself(self):
        for web in (path_web(3), ring_web(4), full_web(2)):
            self.check(web, web)
            self.assertEqual(
                [many for _, many in tones_of(beside_webs(web, web))], [2 * many for _, many in tones_of(web)],
            )

    def test_two_of_eight(self):
        self.check(full_web(8), path_web(8))

    def test_names_too_long(self):
        long, longer = "abcdefg", "abcdefgh"
        self.check(web_of((long, "x"), {}), web_of(("x", long), {(0, 1): 1}))
        for one, other, word in (
            ((longer,), ("a",), "a" + longer), (("a",), (longer,), "b" + longer), (("a", longer, "zzzzzzzz"), ("b",), "a" + longer),
            (("a", "zzzzzzzz", longer), (longer,), "azzzzzzzz"), (("a",), ("b", "zzzzzzzz", longer), "bzzzzzzzz"),
            ((longer,), (longer,), "a" + longer),
        ):
            told = check_refused(self, NoName, beside_webs, web_of(one, {}), web_of(other, {}))
            self.assertEqual(told.word, word)


class Crossed(unittest.TestCase):
    def check_names(self, told, one, other):
        self.assertTrue(is_web(told), told)
        self.assertEqual(told[0], tuple("a" + left + "b" + right for left in one[0] for right in other[0]))

    def test_products(self):
        for one, other in pairs_of_webs():
            told = product_web(one, other)
            self.check_names(told, one, other)
            for (row, (at, beside)), (column, (left, right)) in itertools.product(enumerate(choices(one, other)), repeat=2):
                self.assertEqual(told[1][row][column], one[1][at][left] * other[1][beside][right])
            for many in range(41 if len(told[0]) < 5 else 9):
                self.assertEqual(closed_walks(told, many), closed_walks(one, many) * closed_walks(other, many))

    def test_sums(self):
        for one, other in pairs_of_webs():
            told = sum_web(one, other)
            self.check_names(told, one, other)
            for (row, (at, beside)), (column, (left, right)) in itertools.product(enumerate(choices(one, other)), repeat=2):
                wanted = (other[1][beside][right] if at == left else 0) + (one[1][at][left] if beside == right else 0)
                self.assertEqual(told[1][row][column], wanted)
            for many in range(21 if len(told[0]) < 5 else 9):
                self.assertEqual(closed_walks(told, many), sum(
                    binomial(many, some) * closed_walks(one, some) * closed_walks(other, many - some) for some in range(many + 1)
                ))

    def test_by_hand(self):
        one = web_of("xy", {(0, 1): 2, (0, 0): 3})
        other = web_of("pq", {(0, 1): 5, (1, 1): 7})
        names = ("axbp", "axbq", "aybp", "aybq")
        self.assertEqual(product_web(one, other), (names, (
            (0, 15, 0, 10), (15, 21, 10, 14), (0, 10, 0, 0), (10, 14, 0, 0),
        )))
        self.assertEqual(sum_web(one, other), (names, (
            (3, 5, 2, 0), (5, 10, 0, 2), (2, 0, 0, 5), (0, 2, 5, 7),
        )))

    def test_one_place(self):
        one, other = (("x",), ((-4,),)), (("y",), ((9,),))
        self.assertEqual(product_web(one, other), (("axby",), ((-36,),)))
        self.assertEqual(sum_web(one, other), (("axby",), ((5,),)))

    def test_tones_that_are_whole(self):
        # 2 and -1 twice; 1 and -1.
        one, other = full_web(3), full_web(2)
        self.assertEqual(poly_of(product_web(one, other)[1]), by_roots(2, -2, -1, -1, 1, 1))
        self.assertEqual(poly_of(sum_web(one, other)[1]), by_roots(3, 1, 0, 0, -2, -2))
        self.assertEqual(poly_of(beside_webs(one, other)[1]), by_roots(2, -1, -1, 1, -1))

    def test_the_cube(self):
        tie = path_web(2)
        square = sum_web(tie, tie)
        shorter = (("a", "b", "c", "d"), square[1])
        cube = sum_web(tie, shorter)
        self.assertEqual(poly_of(cube[1]), by_roots(3, 1, 1, 1, -1, -1, -1, -3))

    def test_two_of_eight(self):
        told = product_web(full_web(8), path_web(8))
        self.assertEqual(len(told[0]), 64)
        self.assertEqual(closed_walks(told, 4), closed_walks(full_web(8), 4) * closed_walks(path_web(8), 4))
        told = sum_web(full_web(8), path_web(8))
        self.assertEqual(closed_walks(told, 2), 8 * closed_walks(full_web(8), 2) + 8 * closed_walks(path_web(8), 2))

    def assert_refused(self, one, other, word):
        for function in (product_web, sum_web):
            told = check_refused(self, NoName, function, web_of(one, {}), web_of(other, {}))
            self.assertEqual(told.word, word)

    def test_names_too_long(self):
        self.assertEqual(product_web(web_of(("abc",), {}), web_of(("abc",), {}))[0], ("aabcbabc",))
        self.assertEqual(sum_web(web_of(("a",), {}), web_of(("abcde",), {}))[0], ("aababcde",))
        self.assert_refused(("abcd",), ("abc",), "aabcdbabc")
        self.assert_refused(("abc",), ("abcd",), "aabcbabcd")
        self.assert_refused(("x", "abcdef"), ("y", "z"), "aabcdefby")
        self.assert_refused(("x", "abcdef"), ("y", "z", "abcdefgh"), "axbabcdefgh")
        self.assert_refused(("abcdefgh",), ("abcdefgh",), "aabcdefghbabcdefgh")

    def test_names_that_are_alike(self):
        # x with bq, xb with q: the second of both is refused.
        self.assert_refused(("x", "xb"), ("bq", "q"), "axbbq")
        self.assert_refused(("xb", "x"), ("bq", "q"), "axbbq")
        self.assert_refused(("x", "xb"), ("q", "bq"), "axbbq")
        self.assert_refused(("x", "xbx"), ("q", "xbq"), "axbxbq")
        # Which is too long stands behind the alike one, or ahead of it.
        self.assert_refused(("x", "xb"), ("bq", "q", "abcdefgh"), "axbabcdefgh")
        self.assert_refused(("x", "xb", "abcdefgh"), ("bq", "q"), "axbbq")
        self.assertEqual(product_web(web_of(("x", "xb"), {}), web_of(("q",), {}))[0], ("axbq", "axbbq"))


def sums_by_hand(polynomial, many):
    """The sums of powers of the roots of a polynomial, by the traces of its companion table."""
    numbers = numbers_of(polynomial)
    size = len(numbers) - 1
    table = [[Fraction(int(beside == at + 1)) for beside in range(size)] for at in range(size - 1)]
    if size:
        table.append([-number for number in numbers[:-1]])
    product = [[Fraction(int(at == beside)) for beside in range(size)] for at in range(size)]
    told = []
    for _ in range(many + 1):
        told.append(sum(product[at][at] for at in range(size)))
        product = [[sum(left[k] * table[k][beside] for k in range(size)) for beside in range(size)] for left in product]
    return told


def kinds_by_hand(one, other, third):
    many = len(third) - 1
    ours, theirs, told = (sums_by_hand(polynomial, many) for polynomial in (one, other, third))
    wanted = []
    if all(told[at] == ours[at] + theirs[at] for at in range(many + 1)):
        wanted.append("beside")
    if all(told[at] == ours[at] * theirs[at] for at in range(many + 1)):
        wanted.append("product")
    if all(told[at] == sum(binomial(at, k) * ours[k] * theirs[at - k] for k in range(at + 1)) for at in range(many + 1)):
        wanted.append("sum")
    return tuple(wanted)


class Kinds(unittest.TestCase):
    def assert_kinds(self, one, other, third, *wanted):
        told = kinds_of(one, other, third)
        self.assertTrue(is_kinds(told), told)
        self.assertEqual(told, wanted, (one, other, third))
        self.assertEqual(kinds_of(other, one, third), wanted)
        self.assertEqual(kinds_by_hand(one, other, third), wanted)

    def test_polynomials_of_webs(self):
        for one, other in pairs_of_webs():
            ours, theirs = poly_of(one[1]), poly_of(other[1])
            for function, kind in ((beside_webs, "beside"), (product_web, "product"), (sum_web, "sum")):
                third = poly_of(function(one, other)[1])
                told = kinds_of(ours, theirs, third)
                self.assertTrue(is_kinds(told), told)
                self.assertIn(kind, told)
                self.assertEqual(told, kinds_by_hand(ours, theirs, third))

    def test_each_alone(self):
        one, other = by_roots(1, 2), by_roots(3, 5)
        self.assert_kinds(one, other, by_roots(1, 2, 3, 5), "beside")
        self.assert_kinds(one, other, by_roots(3, 5, 6, 10), "product")
        self.assert_kinds(one, other, by_roots(4, 6, 5, 7), "sum")
        self.assert_kinds(one, other, by_roots(4, 6, 5, 8))

    def test_several_at_once(self):
        nought = poly(0, 0, 1)
        self.assert_kinds(nought, nought, poly(0, 0, 0, 0, 1), "beside", "product", "sum")
        self.assert_kinds(poly(-2, 1), poly(-2, 1), poly(-4, 1), "product", "sum")
        self.assert_kinds(poly(0, 1), poly(0, 1), poly(0, 1), "product", "sum")
        self.assert_kinds(by_roots(0, 1), by_roots(0, 1), by_roots(0, 1, 0, 1), "beside")
        self.assert_kinds(by_roots(0, 0), by_roots(1, -1), by_roots(0, 0, 1, -1), "beside")
        self.assert_kinds(by_roots(0, 0), by_roots(1, -1), by_roots(1, 1, -1, -1), "sum")
        self.assert_kinds(by_roots(0, 0), by_roots(1, -1), by_roots(0, 0, 0, 0), "product")
        self.assert_kinds(by_roots(0, 2), by_roots(0, 2), by_roots(0, 0, 2, 2), "beside")
        self.assert_kinds(by_roots(0, 0), by_roots(0, 5), by_roots(0, 0, 0, 5), "beside")
        self.assert_kinds(by_roots(1, 1), by_roots(0, 1), by_roots(1, 1, 0, 1), "beside")
        self.assert_kinds(by_roots(1, 1), by_roots(0, 1), by_roots(0, 0, 1, 1), "product")
        self.assert_kinds(by_roots(1, 1), by_roots(1, 1), by_roots(1, 1, 1, 1), "beside", "product")

    def test_roots_that_are_not_real(self):
        turns = poly(1, 0, 1)
        self.assert_kinds(turns, turns, poly(1, 0, 2, 0, 1), "beside")
        self.assert_kinds(turns, turns, by_roots(1, 1, -1, -1), "product")
        self.assert_kinds(turns, turns, poly(0, 0, 4, 0, 1), "sum")
        third = poly(1, 1, 1)
        self.assert_kinds(third, third, times(third, by_roots(1, 1)), "product")
        self.assert_kinds(poly(-2, 0, 0, 1), poly(-3, 1), poly(-54, 0, 0, 1), "product")
        self.assert_kinds(poly(-2, 0, 0, 1), poly(-3, 1), poly(-29, 27, -9, 1), "sum")
        self.assert_kinds(poly(-2, 0, 0, 1), poly(-3, 1), times(poly(-2, 0, 0, 1), poly(-3, 1)), "beside")
        # The square roots of 2 and of 3.
        self.assert_kinds(poly(-2, 0, 1), poly(-3, 0, 1), poly(1, 0, -10, 0, 1), "sum")
        self.assert_kinds(poly(-2, 0, 1), poly(-3, 0, 1), poly(36, 0, -12, 0, 1), "product")

    def test_of_another_degree(self):
        one, other = by_roots(1, 2), by_roots(3, 5)
        for third in (poly(1), by_roots(1), by_roots(1, 2), by_roots(1, 2, 3), by_roots(3, 5, 6, 10, 0), by_roots(1, 2, 3, 5, 0)):
            self.assert_kinds(one, other, third)
        # Noughts change no sum of powers but their number.
        self.assert_kinds(poly(0, 0, 1), poly(0, 0, 1), poly(0, 1))
        self.assert_kinds(poly(0, 0, 1), poly(0, 0, 1), poly(0, 0, 0, 0, 0, 1))
        self.assert_kinds(poly(0, 1), poly(0, 1), poly(0, 0, 1), "beside")
        self.assert_kinds(poly(0, 1), poly(0, 0, 1), poly(0, 0, 1), "product", "sum")

    def test_one_number_other(self):
        one, other = by_roots(1, 2), by_roots(3, 5, -4)
        for third in (times(one, other), by_roots(3, 5, -4, 6, 10, -8), by_roots(4, 6, -3, 5, 7, -2)):
            self.assertEqual(len(kinds_of(one, other, third)), 1)
            for at in range(len(third) - 1):
                numbers = numbers_of(third)
                numbers[at] += 1
                self.assert_kinds(one, other, poly(*numbers))

    def test_alike_to_some_power_and_then_unlike(self):
        # The last number of a polynomial is told by the last sum alone.
        for degree in range(1, 10):
            one = poly(*[at + 2 for at in range(degree)], 1)
            other = poly(-3, 1)
            whole = times(one, other)
            self.assert_kinds(one, other, whole, "beside")
            self.assert_kinds(one, other, poly(numbers_of(whole)[0] + 1, *numbers_of(whole)[1:]))
            shifted = poly(numbers_of(one)[0] + 1, *numbers_of(one)[1:])
            self.assert_kinds(one, poly(-1, 1), one, "product")
            self.assert_kinds(one, poly(0, 1), one, "sum")
            self.assert_kinds(one, poly(-1, 1), shifted)
            self.assert_kinds(one, poly(0, 1), shifted)

    def test_without_roots(self):
        one, other = poly(1), by_roots(3, 5)
        self.assert_kinds(one, other, other, "beside")
        self.assert_kinds(one, other, one, "product", "sum")
        self.assert_kinds(one, one, one, "beside", "product", "sum")

    def test_greatest(self):
        one = poly(999999, -999999, 123456, 999998, -1, 1)
        other = poly(-999999, 999999, 1)
        third = times(one, other)
        self.assert_kinds(one, other, third, "beside")
        squares = by_roots(*[root**2 for root in range(1, 6)])
        self.assert_kinds(by_roots(1, 2, 3, 4, 5), by_roots(100, -100), by_roots(*[100 * sign * root for root in range(1, 6) for sign in (1, -1)]), "product")
        self.assert_kinds(squares, by_roots(7, -99), by_roots(*[root**2 + beside for root in range(1, 6) for beside in (7, -99)]), "sum")


def is_kinds(told):
    return is_row_of(told, lambda kind: type(kind) is str) and list(told) == sorted(told)


class Asked(unittest.TestCase):
    def test_again_and_again(self):
        asked = []
        for one, other in list(pairs_of_webs())[::3]:
            for function in (beside_webs, product_web, sum_web):
                asked.append((function, {"one": one, "other": other}, is_web, False))
                third = poly_of(function(one, other)[1])
                polys = {"one": poly_of(one[1]), "other": poly_of(other[1]), "third": third}
                asked.append((kinds_of, polys, is_kinds, False))
        check_asked(self, asked)


if __name__ == "__main__":
    unittest.main()
