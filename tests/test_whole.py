"""[1], [2] and [3], over the whole program: one web asked by all ways at once."""

import random
import unittest
from fractions import Fraction

from tests.helpers import (
    chance_web,
    cube_web,
    full_web,
    pair,
    path_web,
    poly,
    ring_web,
    some_webs,
    star_web,
    sturm_ranks,
    times,
    web_of,
)
from webtones.alike.crossed import beside_webs, kinds_of, product_web, sum_web
from webtones.alike.signs import balance, balance_shown, turned_by
from webtones.bounds.bounds import greatest_between, squares_of, squares_shown
from webtones.bounds.rows import lone_rows, parted_by
from webtones.kept import KeptWeb, tie_polys
from webtones.roots.compared import compared_roots, compared_with, sign_at
from webtones.roots.polynomials import poly_divided, poly_less, poly_plus, poly_times, slope_of
from webtones.roots.roots import roots_between, roots_of
from webtones.webs.partings import coarsest_even, folded_polys
from webtones.webs.texts import read_web, web_shown
from webtones.webs.tones import poly_of, put_into, tones_of
from webtones.webs.walks import closed_walks, poly_by_sums, sums_by_poly
from webtones.webs.without import held_between, polys_without
from webtones.whole import Desk

WEBS = [path_web(3), ring_web(5), star_web(8), full_web(8), cube_web(), web_of("zyx", {}), web_of("ba", {(0, 0): 99, (0, 1): -99})]


def all_webs():
    return WEBS + list(some_webs())[::3]


def kept_of(web):
    """A kept web that was brought to the web by detours."""
    kept = KeptWeb("spare")
    for name in web[0]:
        kept.put_place(name)
        kept.tie(name, "spare", 5)
    kept.take_place("spare")
    for one, weights in zip(web[0], web[1]):
        for other, weight in zip(web[0], weights):
            kept.tie(other, one, 1)
            kept.tie(one, other, weight)
    return kept


def desk_of(web):
    desk = Desk()
    spare = "spare"
    desk.ask(f"place {spare}")
    desk.ask("leave a")
    desk.ask(f"place {web[0][0]}")
    desk.ask(f"leave {spare}")
    for name in web[0][1:]:
        desk.ask(f"place {name}")
    for at, one in enumerate(web[0]):
        for beside in range(at, len(web[0])):
            desk.ask(f"tie {web[0][beside]} {one} {web[1][at][beside]}")
    return desk


class PolynomialByAllWays(unittest.TestCase):
    def test_the_same(self):
        for web in all_webs():
            with self.subTest(web=web):
                wanted = poly_of(web[1])
                many = len(web[0])
                sums = tuple((closed_walks(web, ties), 1) for ties in range(1, many + 1))
                self.assertEqual(poly_by_sums(sums), wanted)
                self.assertEqual(poly_of(read_web(web_shown(web))[1]), wanted)
                kept, desk = kept_of(web), desk_of(web)
                self.assertEqual(kept.web(), web)
                self.assertEqual(kept.poly(), wanted)
                self.assertEqual(poly(*map(int, desk.ask("poly")[0].split(" "))), wanted)
                self.assertEqual("\n".join(desk.ask("web")), web_shown(web))

    def test_by_places_left_out_folded_tied_and_turned(self):
        for web in all_webs():
            with self.subTest(web=web):
                wanted = poly_of(web[1])
                small, whole, left = folded_polys(web, coarsest_even(web, (web[0],)))
                self.assertEqual(whole, wanted)
                self.assertEqual(poly_times(small, left), wanted)
                self.assertEqual(poly_divided(wanted, small), ("divided", left, ()))
                self.assertEqual(poly_of(turned_by(web, web[0][::2])[1]), wanted)
                if len(web[0]) > 1:
                    total = ()
                    for one in polys_without(web):
                        total = poly_plus(total, one)
                    self.assertEqual(total, slope_of(wanted))
                    old, between, both = tie_polys(web, web[0][0], web[0][-1])
                    weight = web[1][0][-1]
                    told = poly_less(poly_less(old, poly_times(poly(2 * weight), between)), poly_times(poly(weight**2), both))
                    self.assertEqual(told, wanted)

    def test_the_table_put_into_its_own_polynomial(self):
        for web in all_webs():
            self.assertTrue(all(number == (0, 1) for row in put_into(poly_of(web[1]), web[1]) for number in row))


class Tones(unittest.TestCase):
    def test_just_the_roots_each_once(self):
        for web in all_webs():
            told = tones_of(web)
            self.assertEqual(told, roots_of(poly_of(web[1])))
            self.assertEqual(sum(many for _, many in told), len(web[0]))
            ranks, _ = sturm_ranks(poly_of(web[1]), poly(1, 1))
            self.assertEqual([many for _, many in told], [ranks.count(rank) for rank in sorted(set(ranks))])
            ends = [Fraction(*end) for stretch, _ in told for end in stretch]
            self.assertEqual(ends, sorted(ends))
            for (low, high), _ in told:
                if low != high:
                    self.assertEqual(roots_between(poly_of(web[1]), low, high), 1)

    def test_any_two_compared(self):
        webs = all_webs()
        for one, other in zip(webs[::4], webs[2::4]):
            ours, theirs = sturm_ranks(poly_of(one[1]), poly_of(other[1]))
            ours, theirs = sorted(set(ours)), sorted(set(theirs))
            for at, left in enumerate(ours):
                for beside, right in enumerate(theirs):
                    told = compared_roots(poly_of(one[1]), at, poly_of(other[1]), beside)
                    self.assertEqual(told, (left > right) - (left < right))

    def test_closed_walks_are_the_sums_of_powers_both_ways(self):
        for web in all_webs():
            sums = sums_by_poly(poly_of(web[1]), 40)
            for ties in (1, 2, 3, 9, 40):
                self.assertEqual(sums[ties - 1], (closed_walks(web, ties), 1))
        for web in WEBS:
            desk, kept = desk_of(web), kept_of(web)
            for ties in range(0, 41, 5):
                self.assertEqual(desk.ask(f"closed {ties}"), [str(closed_walks(web, ties))])
                self.assertEqual(kept.closed(ties), closed_walks(web, ties))

    def test_without_a_place_they_lie_between_and_folded_they_are_among_them(self):
        for web in all_webs():
            if len(web[0]) > 1:
                told = held_between(web, web[0][0])
                self.assertTrue(all(sign in (-1, 0) for two in told for sign in two))
            small, whole, _ = folded_polys(web, coarsest_even(web, (web[0],)))
            for number in range(len(roots_of(small))):
                self.assertEqual(sign_at(whole, small, number), 0)

    def test_told_by_rows_bounds_and_squares(self):
        for web in all_webs():
            tones = tones_of(web)
            for (low, high), many in tones:
                if low == high:
                    rows = lone_rows(web, low)
                    self.assertEqual(len(rows), many)
                    for row in rows:
                        self.assertEqual(parted_by(web, row)[0], low)
            # The least tone is no less than -c just where squares are told.
            for c in (Fraction(0), Fraction(2), Fraction(5, 2), Fraction(99)):
                told = squares_of(web, pair(c))
                self.assertEqual(told[0], "below" if compared_with(poly_of(web[1]), 0, pair(-c)) < 0 else "above")
                self.assertIs(squares_shown(web, pair(c), told), True)

    def test_the_greatest_by_a_row(self):
        for web in (path_web(3), ring_web(5), star_web(8), full_web(8), cube_web()):
            _, low, high = greatest_between(web, (1, 1000))
            last = len(tones_of(web)) - 1
            self.assertGreaterEqual(compared_with(poly_of(web[1]), last, low), 0)
            self.assertLessEqual(compared_with(poly_of(web[1]), last, high), 0)

    def test_of_webs_laid_over_one_another(self):
        chance = random.Random(150)
        for one_many, other_many in ((1, 3), (2, 2), (2, 4), (3, 2)):
            one = chance_web(chance, one_many, -9, 9, names="pqrs"[:one_many])
            other = chance_web(chance, other_many, -9, 9, names="klmn"[:other_many])
            ours, theirs = poly_of(one[1]), poly_of(other[1])
            self.assertEqual(poly_of(beside_webs(one, other)[1]), times(ours, theirs))
            for kind, function in (("beside", beside_webs), ("product", product_web), ("sum", sum_web)):
                self.assertIn(kind, kinds_of(ours, theirs, poly_of(function(one, other)[1])))

    def test_turned_by_its_part_a_balanced_web_has_the_same_tones(self):
        for web in all_webs():
            told = balance(web)
            self.assertIs(balance_shown(web, told), True)
            if told[0] == "balanced":
                self.assertEqual(tones_of(turned_by(web, told[1])), tones_of(web))


if __name__ == "__main__":
    unittest.main()
