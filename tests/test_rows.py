"""[34] and [35]: lone rows, and how any row parts the tones."""

import itertools
import random
import unittest
from fractions import Fraction

from tests.helpers import (
    chance_fraction,
    chance_web,
    check_asked,
    check_refused,
    cube_web,
    full_web,
    is_fraction,
    is_row_of,
    is_sign,
    line,
    pair,
    path_web,
    ring_web,
    some_webs,
    star_web,
    sturm_ranks,
    web_of,
)
from webtones.bounds.rows import lone_rows, parted_by
from webtones.errors import NoRoot
from webtones.roots.roots import roots_of
from webtones.webs.tones import poly_of, tones_of


def rank(columns):
    """How many of the columns are no sums of others, by Python's own fractions."""
    columns = [list(map(Fraction, column)) for column in columns]
    many = 0
    size = len(columns[0]) if columns else 0
    for at in range(size):
        leading = [column for column in columns if column[at] != 0]
        if leading:
            many += 1
            leader = leading[0]
            columns.remove(leader)
            columns = [
                [left - column[at] / leader[at] * right for left, right in zip(column, leader)] for column in columns
            ]
    return many


def free_places(web, fraction):
    """The places whose column is a sum of the columns ahead."""
    size = range(len(web[0]))
    columns = [[web[1][at][beside] - (fraction if at == beside else 0) for at in size] for beside in size]
    return [at for at in size if rank(columns[:at + 1]) == rank(columns[:at])]


def is_rows(told):
    return type(told) is list and all(is_row_of(row, is_fraction) for row in told)


WHOLE_TONES = (
    full_web(5), full_web(8), cube_web(), star_web(5), ring_web(4), ring_web(6), ring_web(3), path_web(2), web_of("abcd", {}),
    (("a",), ((0,),)), (("a",), ((-99,),)), web_of("abcdefgh", {(at, at): 5 for at in range(8)}),
    web_of("abcdefgh", {two: 99 for two in itertools.combinations_with_replacement(range(8), 2)}),
    web_of("abcde", {(0, 1): 3, (1, 2): 4, (3, 3): 5, (4, 4): -5}),
    web_of("abcdef", {(0, 3): 2, (1, 4): 2, (2, 5): -2, (0, 0): 1}),
)


class LoneRows(unittest.TestCase):
    def check(self, web, fraction, times):
        told = lone_rows(web, pair(fraction))
        with self.subTest(web=web, fraction=fraction):
            self.assertTrue(is_rows(told), told)
            self.assertEqual(len(told), times)
            free = free_places(web, fraction)
            self.assertEqual(len(free), times)
            for place, row in zip(free, told):
                numbers = [Fraction(*one) for one in row]
                self.assertEqual([numbers[at] for at in free], [int(at == place) for at in free])
                led = [sum(weight * number for weight, number in zip(weights, numbers)) for weights in web[1]]
                self.assertEqual(led, [fraction * number for number in numbers])

    def test_tones_that_are_fractions(self):
        for web in WHOLE_TONES:
            for (low, high), times in tones_of(web):
                if low == high:
                    self.check(web, Fraction(*low), times)

    def test_tones_of_many_webs(self):
        chance = random.Random(120)
        many = 0
        for _ in range(300):
            web = chance_web(chance, chance.randint(1, 8), -2, 2, 0.5)
            for (low, high), times in tones_of(web):
                if low == high:
                    many += times
                    self.check(web, Fraction(*low), times)
        self.assertGreater(many, 200)

    def test_fractions_that_are_no_tones(self):
        chance = random.Random(121)
        for web in some_webs():
            whole = [Fraction(*low) for (low, high), _ in tones_of(web) if low == high]
            for fraction in (Fraction(1, 2), chance_fraction(chance), Fraction(999999, 999998), Fraction(0), Fraction(10**6)):
                if fraction not in whole:
                    self.assertEqual(lone_rows(web, pair(fraction)), [])
        self.assertEqual(lone_rows(path_web(3), (1, 1)), [])
        self.assertEqual(lone_rows(path_web(3), (1414213, 10**6)), [])

    def test_by_hand(self):
        self.assertEqual(lone_rows(path_web(3), (0, 1)), [((-1, 1), (0, 1), (1, 1))])
        self.assertEqual(lone_rows(path_web(2), (1, 1)), [((1, 1), (1, 1))])
        self.assertEqual(lone_rows(path_web(2), (-1, 1)), [((-1, 1), (1, 1))])
        self.assertEqual(lone_rows(full_web(3), (-1, 1)), [((-1, 1), (1, 1), (0, 1)), ((-1, 1), (0, 1), (1, 1))])
        self.assertEqual(lone_rows(star_web(5), (2, 1)), [((2, 1), (1, 1), (1, 1), (1, 1), (1, 1))])
        self.assertEqual(lone_rows(web_of("abc", {(0, 1): 3, (1, 2): 4}), (5, 1)), [((3, 4), (5, 4), (1, 1))])
        self.assertEqual(lone_rows(web_of("abc", {(0, 1): 3, (1, 2): 4}), (0, 1)), [((-4, 3), (0, 1), (1, 1))])
        self.assertEqual(lone_rows((("a",), ((7,),)), (7, 1)), [((1, 1),)])
        self.assertEqual(lone_rows((("a",), ((7,),)), (6, 1)), [])
        # The first place is free, as its column is nought.
        self.assertEqual(lone_rows(web_of("abc", {(1, 2): 1}), (0, 1)), [((1, 1), (0, 1), (0, 1))])

    def test_webs_of_noughts(self):
        for many in range(1, 9):
            told = lone_rows(web_of("abcdefgh"[:many], {}), (0, 1))
            self.assertEqual(told, [tuple((int(at == beside), 1) for beside in range(many)) for at in range(many)])
            self.assertEqual(lone_rows(web_of("abcdefgh"[:many], {}), (1, 999999)), [])

    def test_told_again_when_the_told_list_was_emptied(self):
        for web, tone in ((full_web(8), (-1, 1)), (path_web(3), (0, 1)), (path_web(3), (1, 1))):
            told = lone_rows(web, tone)
            kept = list(told)
            told.clear()
            self.assertEqual(lone_rows(web, tone), kept)
            told.append(None)
            lone_rows(web, tone).reverse()
            self.assertEqual(lone_rows(web, tone), kept)


def is_parted(told):
    return type(told) is tuple and len(told) == 2 and is_fraction(told[0]) and is_row_of(told[1], is_sign)


class PartedBy(unittest.TestCase):
    def check(self, web, row):
        told = parted_by(web, row)
        self.assertTrue(is_parted(told), told)
        numbers = [Fraction(*one) for one in row]
        square = sum(number**2 for number in numbers)
        by_table = sum(left * weight * right for left, ws in zip(numbers, web[1]) for weight, right in zip(ws, numbers))
        self.assertEqual(told[0], pair(by_table / square))
        tones, ours = sturm_ranks(poly_of(web[1]), line(by_table / square))
        wanted = [(tone > ours[0]) - (tone < ours[0]) for tone in sorted(set(tones))]
        self.assertEqual(told[1], tuple(wanted), (web, row))
        self.assertEqual(len(told[1]), len(roots_of(poly_of(web[1]))))
        # Between the least and the greatest tone.
        self.assertLessEqual(told[1][0], 0)
        self.assertGreaterEqual(told[1][-1], 0)

    def test_many(self):
        chance = random.Random(122)
        for web in list(some_webs())[::2]:
            many = len(web[0])
            self.check(web, tuple(pair(chance_fraction(chance)) for _ in range(many)))
            self.check(web, tuple(pair(chance_fraction(chance, 1)) for _ in range(many - 1)) + ((-2, 3),))
            row = [pair(chance.choice([0, 0, 1, -1])) for _ in range(many)]
            row[chance.randrange(many)] = (1, 1)
            self.check(web, tuple(row))

    def test_one_place_alone(self):
        for web in list(some_webs())[::4]:
            for place in range(len(web[0])):
                row = tuple((5, 7) if at == place else (0, 1) for at in range(len(web[0])))
                self.assertEqual(parted_by(web, row)[0], (web[1][place][place], 1))
                self.check(web, row)

    def test_rows_that_the_table_leads_to_so_many_times_themselves(self):
        for web in WHOLE_TONES:
            tones = tones_of(web)
            for number, ((low, high), _) in enumerate(tones):
                if low == high:
                    for row in lone_rows(web, low):
                        wanted = tuple((at > number) - (at < number) for at in range(len(tones)))
                        self.assertEqual(parted_by(web, row), (low, wanted))

    def test_by_hand(self):
        self.assertEqual(parted_by(path_web(3), ((1, 1), (1, 1), (1, 1))), ((4, 3), (-1, -1, 1)))
        self.assertEqual(parted_by(path_web(3), ((1, 1), (0, 1), (0, 1))), ((0, 1), (-1, 0, 1)))
        self.assertEqual(parted_by(path_web(3), ((1, 1), (-3, 2), (1, 1))), ((-24, 17), (-1, 1, 1)))
        self.assertEqual(parted_by(full_web(4), ((1, 6),) * 4), ((3, 1), (-1, 0)))
        self.assertEqual(parted_by((("a",), ((-9,),)), ((1, 1000),)), ((-9, 1), (0,)))

    def test_near_a_tone_that_is_no_fraction(self):
        # So near to the square root of 2 that it is told by no figures but exactly.
        row = ((408, 577), (1, 1), (408, 577))
        fraction, signs = parted_by(path_web(3), row)
        self.assertLess(2 - Fraction(*fraction)**2, Fraction(1, 10**10))
        self.assertEqual(signs, (-1, -1, 1))
        self.check(path_web(3), row)

    def test_greatest(self):
        chance = random.Random(123)
        web = web_of("abcdefgh", {two: chance.choice([-99, 99, 98]) for two in itertools.combinations_with_replacement(range(8), 2)})
        for _ in range(3):
            self.check(web, tuple(pair(Fraction(chance.randint(10**5, 10**6 - 1), chance.randint(10**5, 10**6 - 1))) for _ in range(8)))

    def test_the_row_of_noughts(self):
        for many in range(1, 9):
            for web in (full_web(many), web_of("abcdefgh"[:many], {})):
                check_refused(self, NoRoot, parted_by, web, ((0, 1),) * many)


class Asked(unittest.TestCase):
    def test_again_and_again(self):
        asked = []
        for web in WHOLE_TONES:
            row = tuple((at + 1, at + 2) for at in range(len(web[0])))
            asked.append((parted_by, {"web": web, "row": row}, is_parted, False))
            for fraction in ((0, 1), (-1, 1), (2, 1), (1, 2)):
                asked.append((lone_rows, {"web": web, "fraction": fraction}, is_rows, False))
        check_asked(self, asked)


if __name__ == "__main__":
    unittest.main()
