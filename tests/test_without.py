"""[16], [17] and [18], and of [3] what it says of places left out."""

import itertools
import random
import unittest

from tests.helpers import (
    chance_web,
    check_asked,
    check_refused,
    cube_web,
    full_web,
    is_pairs,
    is_poly,
    is_row_of,
    is_sign,
    is_web,
    numbers_of,
    path_web,
    poly,
    ring_web,
    some_webs,
    star_web,
    sturm_ranks,
    web_of,
)
from webtones.errors import NoName, NoWeb
from webtones.roots.polynomials import poly_plus, slope_of
from webtones.webs.tones import poly_of
from webtones.webs.without import held_between, polys_without, web_without


def sign(number):
    return (number > 0) - (number < 0)


def left_out(web, names):
    stay = [at for at, name in enumerate(web[0]) if name not in names]
    return tuple(web[0][at] for at in stay), tuple(tuple(web[1][at][beside] for beside in stay) for at in stay)


class Without(unittest.TestCase):
    def assert_without(self, web, names):
        told = web_without(web, tuple(names))
        self.assertTrue(is_web(told), told)
        self.assertEqual(told, left_out(web, names))

    def assert_no_name(self, web, names, word):
        self.assertEqual(check_refused(self, NoName, web_without, web, tuple(names)).word, word)

    def test_none_left_out(self):
        for web in some_webs():
            self.assert_without(web, ())
            self.assertEqual(web_without(web, ()), web)

    def test_one_several_and_all_but_one(self):
        chance = random.Random(40)
        for web in some_webs():
            for many in range(1, len(web[0])):
                names = chance.sample(web[0], many)
                self.assert_without(web, names)
                self.assert_without(web, names[::-1])

    def test_any_order(self):
        web = web_of(("d", "a", "c", "b"), {(0, 0): 9, (0, 1): 1, (1, 2): 2, (2, 3): 3, (0, 3): 4})
        for order in itertools.permutations("ad"):
            self.assertEqual(web_without(web, order), (("c", "b"), ((0, 3), (3, 0))))
        self.assertEqual(web_without(web, ("b", "a", "c")), (("d",), ((9,),)))

    def test_a_name_that_is_none_of_the_webs(self):
        web = path_web(3)
        for names, word in ((["d"], "d"), (["a", "z"], "z"), (["z", "y"], "z"), (["a", "abc", "b"], "abc"), (["A"], "A")):
            self.assert_no_name(web, names, word)
        self.assert_no_name(web, [""], "")

    def test_a_name_told_twice(self):
        web = path_web(3)
        self.assert_no_name(web, ["a", "a"], "a")
        self.assert_no_name(web, ["b", "a", "b"], "b")
        self.assert_no_name(web, ["b", "a", "a", "b"], "a")

    def test_the_first_of_both(self):
        web = path_web(3)
        self.assert_no_name(web, ["a", "a", "z"], "a")
        self.assert_no_name(web, ["a", "z", "a"], "z")
        self.assert_no_name(web, ["z", "a", "a"], "z")
        self.assert_no_name(web, ["z", "z"], "z")

    def test_all_left_out(self):
        for web in some_webs():
            for names in (web[0], web[0][::-1]):
                self.assertEqual(check_refused(self, NoWeb, web_without, web, names).row, 0)

    def test_a_wrong_name_goes_ahead_of_that(self):
        web = path_web(2)
        self.assert_no_name(web, ["a", "b", "a"], "a")
        self.assert_no_name(web, ["a", "b", "c"], "c")
        self.assert_no_name(web, ["c", "b", "a"], "c")


class HeldBetween(unittest.TestCase):
    def check(self, web, name):
        told = held_between(web, name)
        self.assertTrue(is_pairs(told, is_sign, is_sign), told)
        self.assertEqual(len(told), len(web[0]) - 1)
        old, new = sturm_ranks(poly_of(web[1]), poly_of(left_out(web, (name,))[1]))
        wanted = tuple((sign(old[at] - rank), sign(rank - old[at + 1])) for at, rank in enumerate(new))
        self.assertEqual(told, wanted)
        self.assertTrue(all(one in (-1, 0) for two in told for one in two), told)

    def test_by_another_way(self):
        chance = random.Random(41)
        for many in range(2, 9):
            for web in (chance_web(chance, many), chance_web(chance, many, -1, 1), chance_web(chance, many, 0, 1, 0.4)):
                self.check(web, chance.choice(web[0]))

    def test_every_place_of_webs_whose_tones_come_several_times(self):
        for web in (full_web(2), full_web(5), full_web(8), star_web(5), star_web(8), ring_web(5), ring_web(8), cube_web(),
                    path_web(3), path_web(7), web_of("abcdefgh", {}), web_of("abc", {(0, 0): 5, (1, 1): 5})):
            for name in web[0]:
                self.check(web, name)

    def test_by_hand(self):
        # -1 so often as there are others, and 3; without a place -1 stays, and 3 becomes 2.
        self.assertEqual(held_between(full_web(4), "a"), ((0, 0), (0, 0), (-1, -1)))
        self.assertEqual(held_between(full_web(2), "b"), ((-1, -1),))
        self.assertEqual(held_between(star_web(5), "a"), ((-1, 0), (0, 0), (0, 0), (0, -1)))
        self.assertEqual(held_between(star_web(5), "b"), ((-1, -1), (0, 0), (0, 0), (-1, -1)))
        self.assertEqual(held_between(web_of("ab", {(0, 0): 3, (1, 1): 5}), "a"), ((-1, 0),))
        self.assertEqual(held_between(web_of("ab", {(0, 0): 3, (1, 1): 5}), "b"), ((0, -1),))
        self.assertEqual(held_between(web_of("ab", {}), "a"), ((0, 0),))

    def test_tones_that_stay_and_are_no_fractions(self):
        # Two times the square root of 2 as of a path of three, and a place alone.
        web = web_of("abcdefg", {(0, 1): 1, (1, 2): 1, (3, 4): 1, (4, 5): 1})
        self.assertEqual(held_between(web, "g"), ((0, 0), (0, -1), (0, 0), (0, 0), (-1, 0), (0, 0)))
        for name in web[0]:
            self.check(web, name)

    def test_greatest(self):
        web = web_of("abcdefgh", {two: 99 - two[0] * two[1] for two in itertools.combinations_with_replacement(range(8), 2)})
        for name in web[0]:
            self.check(web, name)

    def test_a_name_that_is_none_of_the_webs(self):
        for name in ("z", "ab", ""):
            self.assertEqual(check_refused(self, NoName, held_between, path_web(2), name).word, name)


class PolysWithout(unittest.TestCase):
    def test_all(self):
        for web in some_webs():
            if len(web[0]) >= 2:
                told = polys_without(web)
                self.assertTrue(is_row_of(told, is_poly), told)
                self.assertEqual(told, tuple(poly_of(left_out(web, (name,))[1]) for name in web[0]))
                total = ()
                for one in told:
                    total = poly_plus(total, one)
                self.assertEqual(total, slope_of(poly_of(web[1])))

    def test_by_hand(self):
        self.assertEqual(polys_without(web_of("ab", {(0, 0): 3, (0, 1): 4, (1, 1): 5})), (poly(-5, 1), poly(-3, 1)))
        self.assertEqual(polys_without(path_web(3)), (poly(-1, 0, 1), poly(0, 0, 1), poly(-1, 0, 1)))
        self.assertEqual(len(numbers_of(polys_without(cube_web())[7])), 8)


class Asked(unittest.TestCase):
    def test_by_place_and_by_name_again_and_again(self):
        asked = []
        for web in some_webs():
            if len(web[0]) >= 2:
                asked.append((web_without, {"web": web, "names": web[0][1:]}, is_web, True))
                asked.append((held_between, {"web": web, "name": web[0][0]}, lambda told: is_pairs(told, is_sign, is_sign), True))
                asked.append((polys_without, {"web": web}, lambda told: is_row_of(told, is_poly), True))
        check_asked(self, asked[::5])

    def test_refused_again_and_again(self):
        for _ in range(3):
            with self.assertRaises(NoName):
                web_without(names=("z",), web=path_web(2))
            with self.assertRaises(NoWeb):
                web_without(names=("b", "a"), web=path_web(2))
            with self.assertRaises(NoName):
                held_between(name="z", web=path_web(2))


if __name__ == "__main__":
    unittest.main()
