"""[25], [26] and [27]: bounds by tones."""

import itertools
import random
import unittest
from fractions import Fraction

from tests.helpers import (
    chance_fraction,
    chance_web,
    check_asked,
    check_refused,
    cube_web,
    full_web,
    is_fraction,
    is_name,
    is_row_of,
    is_truth,
    lone_part,
    pair,
    path_web,
    ring_web,
    some_webs,
    star_web,
    sturm_chain,
    sturm_count,
    turns_at,
    web_of,
)
from webtones.bounds.bounds import greatest_between, lone_set, row_bounds, squares_of, squares_shown
from webtones.errors import NoParting
from webtones.webs.tones import poly_of


def fractions_of(row):
    return [Fraction(*one) for one in row]


def bounds_by_hand(web, row):
    numbers = fractions_of(row)
    shares = [sum(w * n for w, n in zip(weights, numbers)) / own for weights, own in zip(web[1], numbers)]
    return pair(min(shares)), pair(max(shares))


def chance_row(chance, many, figures=6):
    """A row of fractions above 0."""
    top = 10**figures - 1
    return tuple(pair(Fraction(chance.randint(1, top), chance.randint(1, top))) for _ in range(many))


def webs_above(chance):
    """Webs without weights below 0."""
    for many in range(1, 9):
        yield web_of("abcdefgh"[:many], {})
        yield chance_web(chance, many, 0, 1, 0.7)
        yield chance_web(chance, many, 0, 99, 0.4)
        yield chance_web(chance, many, 1, 99, 1)


def hangs_together(web):
    reached, waiting = {0}, [0]
    while waiting:
        place = waiting.pop()
        for beside, weight in enumerate(web[1][place]):
            if weight != 0 and beside not in reached:
                reached.add(beside)
                waiting.append(beside)
    return len(reached) == len(web[0])


def is_bounds(told):
    return is_row_of(told, is_fraction) and len(told) == 2


class RowBounds(unittest.TestCase):
    def check(self, web, row):
        told = row_bounds(web, row)
        self.assertTrue(is_bounds(told), told)
        self.assertEqual(told, bounds_by_hand(web, row))

    def test_by_hand(self):
        self.assertEqual(row_bounds(path_web(3), ((1, 1),) * 3), ((1, 1), (2, 1)))
        self.assertEqual(row_bounds(path_web(3), ((1, 1), (3, 2), (1, 1))), ((4, 3), (3, 2)))
        self.assertEqual(row_bounds(full_web(4), ((1, 2),) * 4), ((3, 1), (3, 1)))
        self.assertEqual(row_bounds(web_of("ab", {}), ((1, 2), (7, 3))), ((0, 1), (0, 1)))
        self.assertEqual(row_bounds(web_of("abc", {(0, 1): 1}), ((1, 2), (2, 1), (5, 1))), ((0, 1), (4, 1)))
        self.assertEqual(row_bounds((("a",), ((5,),)), ((3, 7),)), ((5, 1), (5, 1)))
        self.assertEqual(row_bounds((("a",), ((0,),)), ((3, 7),)), ((0, 1), (0, 1)))

    def test_many(self):
        chance = random.Random(80)
        for web in webs_above(chance):
            for figures in (1, 6):
                self.check(web, chance_row(chance, len(web[0]), figures))

    def test_the_greatest_tone_lies_between(self):
        chance = random.Random(81)
        for web in webs_above(chance):
            low, high = fractions_of(row_bounds(web, chance_row(chance, len(web[0]), 2)))
            polynomial = poly_of(web[1])
            self.assertEqual(sturm_count(polynomial, high, high + 10**6), 0)
            self.assertGreaterEqual(sturm_count(polynomial, low - Fraction(1, 10**9), high), 1)


WIDTHS = (Fraction(1), Fraction(7, 3), Fraction(1000), Fraction(1, 10), Fraction(1, 10**6), Fraction(1, 10**12))

# Two heavy halves at the ends of a light row: the two greatest tones are hardly apart.
HEAVY = {two: 99 for two in itertools.combinations_with_replacement(range(3), 2)}
HEAVY_ENDS = web_of("abcdefgh", HEAVY | {(5 + one, 5 + other): 99 for one, other in HEAVY} | {(2, 3): 1, (3, 4): 1, (4, 5): 1})

TURNING = [
    path_web(2), path_web(8), ring_web(4), ring_web(6), ring_web(8), star_web(8), cube_web(),
    web_of("ab", {(0, 1): 99}),
    web_of("abcdefgh", {(one, other): 1 + (one * 37 + other * 11) % 99 for one in range(4) for other in range(4, 8)}),
    web_of("abcdefgh", {(at, (at + 1) % 8): 99 if at % 3 else 1 for at in range(8)}),
    web_of("abcdefgh", {(at, at + 1): (99, 1)[at % 2] for at in range(7)}),
]
UNLIKE = [
    web_of("abcdefgh", {(at, at + 1): 1 for at in range(7)} | {(0, 0): 99}),
    web_of("abcdefgh", {(at, at + 1): 1 for at in range(7)} | {(7, 7): 99, (0, 0): 98}),
    web_of("abcdefgh", {(at, at + 1): 1 for at in range(7)} | {(7, 7): 99, (0, 0): 99}),
    HEAVY_ENDS,
]


class GreatestBetween(unittest.TestCase):
    def check(self, web, width):
        told = greatest_between(web, pair(width))
        with self.subTest(web=web, width=width):
            self.assertTrue(type(told) is tuple and len(told) == 3)
            row, low, high = told
            self.assertTrue(is_row_of(row, is_fraction))
            self.assertEqual(len(row), len(web[0]))
            self.assertTrue(all(number > 0 for number in fractions_of(row)))
            self.assertEqual((low, high), bounds_by_hand(web, row))
            self.assertEqual((low, high), row_bounds(web, row))
            self.assertLessEqual(Fraction(*high) - Fraction(*low), width)

    def test_tones_that_turn_about_in_sign(self):
        for web in TURNING:
            for width in WIDTHS:
                self.check(web, width)

    def test_very_unlike_weights(self):
        for web in UNLIKE:
            for width in WIDTHS:
                self.check(web, width)

    def test_many(self):
        chance = random.Random(82)
        hanging = 0
        for web in webs_above(chance):
            if hangs_together(web):
                hanging += 1
                self.check(web, chance.choice(WIDTHS))
                self.check(web, Fraction(1, 10**12))
            else:
                check_refused(self, NoParting, greatest_between, web, (1, 1))
        self.assertGreater(hanging, 15)

    def test_one_place(self):
        for weight in (0, 1, 7, 99):
            for width in WIDTHS:
                web = (("a",), ((weight,),))
                self.check(web, width)
                self.assertEqual(greatest_between(web, pair(width))[1:], ((weight, 1), (weight, 1)))

    def test_the_greatest_tone_a_fraction(self):
        for web, tone in ((full_web(5), 4), (ring_web(7), 2), (star_web(5), 2), (cube_web(), 3), (web_of("ab", {(0, 1): 99}), 99)):
            for width in WIDTHS:
                self.check(web, width)
                _, low, high = greatest_between(web, pair(width))
                self.assertLessEqual(Fraction(*low), tone)
                self.assertGreaterEqual(Fraction(*high), tone)

    def test_webs_that_do_not_hang_together(self):
        for web in (
            web_of("ab", {}), web_of("ab", {(0, 0): 1, (1, 1): 1}), web_of("abc", {(0, 1): 1}), web_of("abcdefgh", {}),
            web_of("abcd", {(0, 2): 1, (1, 3): 1}), web_of("abcdefgh", {(at, at + 1): 99 for at in range(6)}),
        ):
            for width in ((1, 1), (1, 10**12), (1000, 1)):
                check_refused(self, NoParting, greatest_between, web, width)


def lone_by_hand(web):
    """The first greatest set of all, and whether it meets the bound, by Sturm's rows."""
    many = len(web[0])
    for size in range(many, 0, -1):
        for places in itertools.combinations(range(many), size):
            if all(web[1][one][other] == 0 for one, other in itertools.combinations(places, 2)):
                met = False
                if size < many:
                    # As great as the bound just where the least tone is -(size times d) over (many less size).
                    least = Fraction(-size * sum(web[1][0]), many - size)
                    polynomial = poly_of(web[1])
                    lone = lone_part(polynomial)
                    chain = sturm_chain(lone)
                    met = turns_at(chain, Fraction(-1000)) - turns_at(chain, least) == 1 and sum(
                        Fraction(*one) * least**at for at, one in enumerate(polynomial)
                    ) == 0
                return tuple(web[0][place] for place in places), met
    return None


def halves_web(each, ties):
    """Two halves of so many places; each place tied with so many of the other half."""
    return web_of("abcdefgh"[:2 * each], {(one, each + (one + step) % each): 1 for one in range(each) for step in range(ties)})


def circle_web(many, steps):
    return web_of("abcdefgh"[:many], {(at, (at + step) % many): 1 for at in range(many) for step in steps})


EVEN_WEBS = (
    [ring_web(many) for many in range(3, 9)] + [full_web(many) for many in range(2, 9)] + [cube_web()]
    + [halves_web(each, ties) for each in range(1, 5) for ties in range(1, each + 1)]
    + [circle_web(many, steps) for many in range(4, 9) for steps in ((1, 2), (2,), (1, 3))]
    + [web_of("hgfedcba", {(at, at ^ 1): 1 for at in range(8)}), circle_web(8, (1, 4)), circle_web(8, (1, 2, 3)), circle_web(8, (4,))]
    + [web_of("abcdef", {(0, 1): 1, (1, 2): 1, (2, 0): 1, (3, 4): 1, (4, 5): 1, (5, 3): 1})]
)


class LoneSet(unittest.TestCase):
    def check(self, web):
        told = lone_set(web)
        self.assertTrue(type(told) is tuple and len(told) == 2 and is_row_of(told[0], is_name) and is_truth(told[1]), told)
        self.assertEqual(told, lone_by_hand(web), web)
        return told

    def test_even_webs(self):
        degrees = set()
        truths = []
        for web in EVEN_WEBS:
            degrees.add(sum(web[1][0]))
            truths.append(self.check(web)[1])
        self.assertEqual(degrees, {1, 2, 3, 4, 5, 6, 7})
        self.assertGreater(truths.count(True), 10)
        self.assertGreater(truths.count(False), 3)

    def test_places_in_any_order(self):
        chance = random.Random(83)
        for web in EVEN_WEBS:
            order = chance.sample(range(len(web[0])), len(web[0]))
            mixed = tuple(tuple(web[1][one][other] for other in order) for one in order)
            self.check((tuple(chance.sample(web[0], len(web[0]))), mixed))

    def test_by_hand(self):
        self.assertEqual(lone_set(full_web(5)), (("a",), True))
        self.assertEqual(lone_set(cube_web()), (("a", "d", "f", "g"), True))
        self.assertEqual(lone_set(ring_web(4)), (("a", "c"), True))
        self.assertEqual(lone_set(ring_web(6)), (("a", "c", "e"), True))
        # The least tone of a ring of five or seven is no fraction, and the bound is no whole number.
        self.assertEqual(lone_set(ring_web(5)), (("a", "c"), False))
        self.assertEqual(lone_set(ring_web(7)), (("a", "c", "e"), False))
        self.assertEqual(lone_set(ring_web(3)), (("a",), True))
        # Names are not in the order of letters: the web's order tells.
        self.assertEqual(lone_set((tuple("dcba"), ring_web(4)[1])), (("d", "b"), True))
        self.assertEqual(lone_set(path_web(2)), (("a",), True))
        # The least tone is -2, each place has four ties: the bound is 6 times 2 over 6.
        self.assertEqual(lone_set(circle_web(6, (1, 2))), (("a", "d"), True))

    def test_the_least_tone_no_fraction_and_the_bound_not_met(self):
        web = circle_web(8, (1, 4))
        self.assertEqual(lone_set(web), lone_by_hand(web))
        self.assertIs(lone_set(web)[1], False)

    def test_the_first_by_numbers_of_places(self):
        web = (tuple("zyxwvu"), ring_web(6)[1])
        self.assertEqual(lone_set(web)[0], ("z", "x", "v"))
        web = web_of("abcd", {(0, 3): 1, (1, 2): 1})
        self.assertEqual(lone_set(web), (("a", "b"), True))

    def test_what_is_not_such_a_web(self):
        for web in (
            path_web(3), star_web(4), web_of("abc", {(0, 1): 1}),
            web_of("ab", {(0, 1): 2}), web_of("ab", {(0, 1): -1}), web_of("abc", {(0, 1): 2, (1, 2): 2, (0, 2): 2}),
            web_of("abcd", {(0, 1): 2, (2, 3): 1, (1, 2): -1, (0, 3): -1}),
            web_of("ab", {(0, 0): 1, (1, 1): 1}), web_of("ab", {(0, 0): 1, (1, 1): 1, (0, 1): 1}),
            web_of("abc", {(0, 0): 1, (1, 2): 1}), web_of("ab", {(0, 1): 1, (0, 0): -1, (1, 1): -1}),
            web_of("ab", {}), web_of("abcdefgh", {}), (("a",), ((0,),)), (("a",), ((1,),)), (("a",), ((-1,),)),
            web_of("abcdefgh", {two: 99 for two in itertools.combinations(range(8), 2)}),
        ):
            check_refused(self, NoParting, lone_set, web)


def table_with(web, c):
    size = range(len(web[0]))
    return [[web[1][at][beside] + (c if at == beside else 0) for beside in size] for at in size]


def comes_to(web, c, squares):
    size = range(len(web[0]))
    told = [[Fraction(0)] * len(web[0]) for _ in size]
    for weight, row in squares:
        numbers = fractions_of(row)
        for at in size:
            for beside in size:
                told[at][beside] += Fraction(*weight) * numbers[at] * numbers[beside]
    return told == table_with(web, c)


def square_by_hand(web, c, row):
    numbers = fractions_of(row)
    table = table_with(web, c)
    return sum(left * weight * right for left, weights in zip(numbers, table) for weight, right in zip(weights, numbers))


def has_tone_below(web, c):
    """Whether a tone is less than -c, by Sturm's rows."""
    polynomial = poly_of(web[1])
    many = sturm_count(polynomial, -abs(c) - 10**4, -c)
    is_root = sum(Fraction(*one) * (-c)**at for at, one in enumerate(polynomial)) == 0
    return many - is_root > 0


def is_square(square):
    return type(square) is tuple and len(square) == 2 and is_fraction(square[0]) and is_row_of(square[1], is_fraction)


def is_squares(told):
    return type(told) is tuple and len(told) == 2 and (
        told[0] == "above" and is_row_of(told[1], is_square) or told[0] == "below" and is_row_of(told[1], is_fraction)
    )


class Squares(unittest.TestCase):
    def check(self, web, c):
        told = squares_of(web, pair(c))
        with self.subTest(web=web, c=c):
            self.assertTrue(is_squares(told), told)
            if has_tone_below(web, c):
                self.assertEqual(told[0], "below")
                self.assertEqual(len(told[1]), len(web[0]))
                self.assertLess(square_by_hand(web, c, told[1]), 0)
            else:
                self.assertEqual(told[0], "above")
                self.assertTrue(all(weight[0] > 0 and len(row) == len(web[0]) for weight, row in told[1]))
                self.assertTrue(comes_to(web, c, told[1]))
            self.assertIs(squares_shown(web, pair(c), told), True)
            other = ("below" if told[0] == "above" else "above", told[1])
            self.assertIs(squares_shown(web, pair(c), other), False)
        return told[0]

    def test_many(self):
        chance = random.Random(84)
        words = []
        for web in some_webs():
            for c in (Fraction(0), Fraction(chance.randint(0, 400)), chance_fraction(chance), chance_fraction(chance, 2) * 100):
                words.append(self.check(web, c))
        self.assertGreater(words.count("above"), 100)
        self.assertGreater(words.count("below"), 100)

    def test_just_at_the_greatest_needed_below_and_above(self):
        little = Fraction(1, 10**12)
        for web, c in (
            (full_web(5), 1), (full_web(2), 1), (ring_web(8), 2), (cube_web(), 3), (star_web(5), 2), (ring_web(3), 1),
            (web_of("ab", {(0, 0): 99, (1, 1): 98}), -98), ((("a",), ((7,),)), -7), ((("a",), ((-7,),)), 7),
            (web_of("abc", {}), 0), (web_of("abcdefgh", {two: 99 for two in itertools.combinations_with_replacement(range(8), 2)}), 0),
            (web_of("abcd", {(0, 1): 3, (2, 3): -3}), 3),
        ):
            self.assertEqual(self.check(web, Fraction(c)), "above")
            self.assertEqual(self.check(web, c + little), "above")
            self.assertEqual(self.check(web, c + Fraction(1)), "above")
            self.assertEqual(self.check(web, c - little), "below")
            self.assertEqual(self.check(web, c - Fraction(1)), "below")

    def test_the_greatest_needed_no_fraction(self):
        # The square root of 2, by twelve figures.
        low, high = Fraction(1414213562373, 10**12), Fraction(1414213562374, 10**12)
        self.assertEqual(self.check(path_web(3), low), "below")
        self.assertEqual(self.check(path_web(3), high), "above")
        # The golden ratio, the least tone of a row of four.
        low, high = Fraction(1618033988749, 10**12), Fraction(1618033988750, 10**12)
        for web in (path_web(4), ring_web(5)):
            self.assertEqual(self.check(web, low), "below")
            self.assertEqual(self.check(web, high), "above")

    def test_noughts_from_corner_to_corner(self):
        self.assertEqual(self.check(path_web(2), Fraction(0)), "below")
        self.assertEqual(self.check(web_of("abc", {(1, 2): -5}), Fraction(0)), "below")
        self.assertEqual(self.check(web_of("abc", {(0, 1): 3, (1, 1): 40}), Fraction(0)), "below")
        self.assertEqual(self.check(web_of("abc", {(0, 0): 1, (1, 2): 4, (2, 2): 4, (1, 1): 4}), Fraction(0)), "above")
        self.assertEqual(self.check(web_of("abcd", {(0, 0): 1, (0, 1): 1, (1, 1): 1, (1, 3): 1, (0, 3): 2}), Fraction(0)), "below")

    def test_webs_of_noughts(self):
        for many in range(1, 9):
            web = web_of("abcdefgh"[:many], {})
            self.assertEqual(squares_of(web, (0, 1)), ("above", ()))
            self.assertEqual(self.check(web, Fraction(1, 999999)), "above")
            self.assertEqual(self.check(web, Fraction(-1, 999999)), "below")


class SquaresShown(unittest.TestCase):
    WEB = web_of("ab", {(0, 1): 1})
    ONES = ((1, 1), (1, 1))
    ABOVE = ("above", (((1, 1), ONES),))

    def assert_shown(self, web, c, told, wanted):
        answer = squares_shown(web, c, told)
        self.assertTrue(is_truth(answer), answer)
        self.assertEqual(answer, wanted, (web, c, told))

    def test_other_squares_that_come_to_the_table(self):
        self.assert_shown(self.WEB, (1, 1), self.ABOVE, True)
        self.assert_shown(self.WEB, (1, 1), ("above", (((4, 1), ((1, 2), (1, 2))),)), True)
        self.assert_shown(self.WEB, (1, 1), ("above", (((1, 1), ((-1, 1), (-1, 1))),)), True)
        self.assert_shown(self.WEB, (1, 1), ("above", (((1, 3), self.ONES), ((2, 3), self.ONES))), True)
        self.assert_shown(self.WEB, (1, 1), ("above", (((1, 1), self.ONES), ((5, 1), ((0, 1), (0, 1))))), True)
        self.assert_shown(self.WEB, (2, 1), ("above", (((1, 1), self.ONES), ((1, 1), ((1, 1), (0, 1))), ((1, 1), ((0, 1), (1, 1))))), True)

    def test_squares_that_come_to_another_table(self):
        self.assert_shown(self.WEB, (2, 1), self.ABOVE, False)
        self.assert_shown(self.WEB, (0, 1), self.ABOVE, False)
        self.assert_shown(web_of("ab", {(0, 1): -1}), (1, 1), self.ABOVE, False)
        self.assert_shown(web_of("ab", {(0, 1): 1, (1, 1): 1}), (1, 1), self.ABOVE, False)
        self.assert_shown(self.WEB, (1, 1), ("above", (((1, 1), self.ONES), ((1, 1), self.ONES))), False)
        self.assert_shown(self.WEB, (1, 1), ("above", (((2, 1), self.ONES),)), False)
        self.assert_shown(self.WEB, (1, 1), ("above", (((1, 1), ((1, 1), (-1, 1))),)), False)

    def test_no_squares_at_all(self):
        self.assert_shown(self.WEB, (1, 1), ("above", ()), False)
        self.assert_shown(web_of("ab", {}), (0, 1), ("above", ()), True)
        self.assert_shown(web_of("ab", {}), (1, 10**12), ("above", ()), False)
        self.assert_shown(web_of("ab", {(0, 0): 3, (1, 1): 3}), (-3, 1), ("above", ()), True)

    def test_weights_not_above_0(self):
        nought = ((0, 1), (0, 1))
        self.assert_shown(self.WEB, (1, 1), ("above", (((1, 1), self.ONES), ((0, 1), self.ONES))), False)
        self.assert_shown(self.WEB, (1, 1), ("above", (((1, 1), self.ONES), ((-1, 1), nought))), False)
        self.assert_shown(self.WEB, (1, 1), ("above", (((2, 1), self.ONES), ((-1, 1), self.ONES))), False)
        # x x less y y is no sum of squares, though with a weight below 0 it comes to the table.
        half = (((1, 2), ((1, 1), (1, 1))), ((-1, 2), ((1, 1), (-1, 1))))
        self.assertTrue(comes_to(self.WEB, Fraction(0), half))
        self.assert_shown(self.WEB, (0, 1), ("above", half), False)

    def test_rows_of_another_length(self):
        for row in ((), ((1, 1),), ((1, 1), (1, 1), (0, 1)), ((1, 1), (1, 1), (1, 1))):
            self.assert_shown(self.WEB, (1, 1), ("above", (((1, 1), row),)), False)
            self.assert_shown(self.WEB, (1, 1), ("above", (((1, 1), self.ONES), ((1, 1), row))), False)
        for row in ((), ((1, 1),), ((1, 1), (-1, 1), (0, 1)), ((1, 1), (-1, 1), (-1, 1))):
            self.assert_shown(self.WEB, (0, 1), ("below", row), False)
        self.assert_shown(self.WEB, (0, 1), ("above", (((1, 1), ()),)), False)

    def test_rows_that_come_below_0_or_not(self):
        turned = ((1, 1), (-1, 1))
        self.assert_shown(self.WEB, (0, 1), ("below", turned), True)
        self.assert_shown(self.WEB, (999999999999, 10**12), ("below", turned), True)
        self.assert_shown(self.WEB, (1, 1), ("below", turned), False)
        self.assert_shown(self.WEB, (2, 1), ("below", turned), False)
        self.assert_shown(self.WEB, (0, 1), ("below", self.ONES), False)
        self.assert_shown(self.WEB, (0, 1), ("below", ((1, 1), (0, 1))), False)
        self.assert_shown(self.WEB, (-1, 1), ("below", ((0, 1), (0, 1))), False)
        self.assert_shown(self.WEB, (-1, 1), ("below", ((1, 7), (0, 1))), True)

    def test_fractions_of_any_figures(self):
        great = 10**200 + 7
        self.assert_shown(self.WEB, (1, 1), ("above", (((great**2, 1), ((1, great), (1, great))),)), True)
        self.assert_shown(self.WEB, (1, 1), ("above", (((great**2 + 1, 1), ((1, great), (1, great))),)), False)
        # The square root of 2 by 200 figures: a square just below 0, and just above it.
        least = 1
        for _ in range(12):
            least = (least + 2 * 10**400 // least) // 2 if least > 1 else 10**200
        web = path_web(3)
        for root, wanted in ((least - 1, True), (least + 2, False)):
            c = pair(Fraction(root, 10**200))
            row = ((1, 1), pair(-Fraction(root, 10**200)), (1, 1))
            self.assertEqual(square_by_hand(web, Fraction(*c), row) < 0, wanted)
            self.assert_shown(web, c, ("below", row), wanted)

    def test_each_told_one_with_another_number(self):
        chance = random.Random(85)
        for web in list(some_webs())[::7]:
            for c in (Fraction(800), Fraction(0), chance_fraction(chance)):
                word, thing = squares_of(web, pair(c))
                for other in (c + 1, c - Fraction(1, 10**12), c - 1000):
                    wanted = comes_to(web, other, thing) if word == "above" else square_by_hand(web, other, thing) < 0
                    self.assert_shown(web, pair(other), (word, thing), wanted)
                if word == "above" and thing:
                    self.assert_shown(web, pair(c), (word, thing[1:]), False)
                    self.assert_shown(web, pair(c), (word, thing[::-1]), True)

    def test_what_is_no_such_thing(self):
        for told in (
            (), ("above",), ("below",), None, 0, "above", ("Above", ()), ("", ()), (None, ()), ["above", ()], ("above", [], ()),
            ("above", None), ("above", []), ("above", "ab"), ("above", (None,)), ("above", ((),)), ("above", (((1, 1),),)),
            ("above", (((1, 1), self.ONES, ()),)), ("above", ((1, self.ONES),)), ("above", (((1, 1), (1, 1)),)),
            ("above", (((2, 2), self.ONES),)), ("above", (((1, 1), ((2, 2), (1, 1))),)), ("above", (((1, 0), self.ONES),)),
            ("above", (((-1, -1), self.ONES),)), ("above", (((True, 1), self.ONES),)), ("above", (((1, 1), list(self.ONES)),)),
            ("above", ([(1, 1), self.ONES],)), ("below", None), ("below", 5), ("below", (1, -1)), ("below", [(1, 1), (-1, 1)]),
            ("below", ((1, 1), (-2, 2))), ("below", ((1, 1), (1, -1))), ("below", ((1, 1), -1)), ("beside", ((1, 1), (-1, 1))),
        ):
            self.assert_shown(self.WEB, (1, 1), told, False)
            self.assert_shown(self.WEB, (0, 1), told, False)


class Asked(unittest.TestCase):
    def test_again_and_again(self):
        chance = random.Random(86)
        asked = []
        for web in webs_above(chance):
            row = chance_row(chance, len(web[0]))
            asked.append((row_bounds, {"web": web, "row": row}, is_bounds, False))
            if hangs_together(web):
                asked.append((greatest_between, {"web": web, "width": (1, 1000)}, lambda told: len(told) == 3, False))
        asked += [(lone_set, {"web": web}, lambda told: len(told) == 2, False) for web in EVEN_WEBS[::4]]
        for web in list(some_webs())[::5]:
            for c in ((100, 1), (-1, 3)):
                asked.append((squares_of, {"web": web, "c": c}, is_squares, False))
                asked.append((squares_shown, {"web": web, "c": c, "told": squares_of(web, c)}, is_truth, False))
        check_asked(self, asked)

    def test_refused_again_and_again(self):
        for _ in range(2):
            check_refused(self, NoParting, greatest_between, web_of("ab", {}), (1, 1))
            check_refused(self, NoParting, lone_set, path_web(3))


if __name__ == "__main__":
    unittest.main()
