"""[30] and [31]: webs that are kept and changed, and polynomials by the weight of one tie."""

import itertools
import random
import unittest

from tests.helpers import (
    ALIKE_NAMES,
    chance_web,
    check_asked,
    check_refused,
    full_web,
    is_poly,
    is_row_of,
    is_web,
    is_whole,
    numbers_of,
    path_web,
    poly,
    some_webs,
    web_of,
)
from webtones.errors import NoName, NoWeb
from webtones.kept import KeptWeb, tie_polys
from webtones.webs.tones import poly_of, tones_of
from webtones.webs.walks import closed_walks


class ByHand:
    """What a kept web is to be: names, and ties in a dict."""

    def __init__(self, name):
        self.names, self.ties = [name], {}

    def put(self, name):
        self.names.append(name)

    def take(self, name):
        self.names.remove(name)
        self.ties = {two: weight for two, weight in self.ties.items() if name not in two}

    def tie(self, one, other, weight):
        self.ties[frozenset((one, other))] = weight

    def web(self):
        table = tuple(tuple(self.ties.get(frozenset((one, other)), 0) for other in self.names) for one in self.names)
        return tuple(self.names), table


class Kept(unittest.TestCase):
    def assert_web(self, kept, wanted):
        told = kept.web()
        self.assertTrue(is_web(told), told)
        self.assertEqual(told, wanted)
        self.assertTrue(is_poly(kept.poly()))
        self.assertEqual(kept.poly(), poly_of(wanted[1]))
        for many in (0, 1, 2, 3, 7):
            self.assertTrue(is_whole(kept.closed(many)))
            self.assertEqual(kept.closed(many), closed_walks(wanted, many))

    def test_at_first(self):
        for name in ("a", "abcdefgh", "z"):
            kept = KeptWeb(name)
            self.assert_web(kept, ((name,), ((0,),)))
            self.assertEqual(kept.poly(), poly(0, 1))
            self.assertEqual(kept.closed(0), 1)

    def test_deeds_tell_nothing(self):
        kept = KeptWeb("a")
        self.assertIsNone(kept.put_place("b"))
        self.assertIsNone(kept.tie("a", "b", 3))
        self.assertIsNone(kept.take_place("a"))

    def test_by_hand(self):
        kept = KeptWeb("m")
        kept.put_place("b")
        kept.put_place("a")
        self.assert_web(kept, web_of("mba", {}))
        kept.tie("b", "m", -2)
        kept.tie("a", "a", 5)
        self.assert_web(kept, web_of("mba", {(0, 1): -2, (2, 2): 5}))
        kept.tie("m", "b", 7)
        self.assert_web(kept, web_of("mba", {(0, 1): 7, (2, 2): 5}))
        kept.take_place("m")
        self.assert_web(kept, web_of("ba", {(1, 1): 5}))
        kept.put_place("m")
        self.assert_web(kept, web_of("bam", {(1, 1): 5}))
        kept.tie("a", "a", 0)
        self.assert_web(kept, web_of("bam", {}))
        kept.tie("m", "b", 1)
        kept.tie("b", "m", 0)
        self.assert_web(kept, web_of("bam", {}))

    def test_many_deeds(self):
        chance = random.Random(100)
        for _ in range(25):
            name = chance.choice(ALIKE_NAMES)
            kept, hand = KeptWeb(name), ByHand(name)
            for _ in range(40):
                deed = chance.random()
                free = [name for name in ALIKE_NAMES if name not in hand.names]
                if deed < 0.3 and free:
                    name = chance.choice(free)
                    kept.put_place(name)
                    hand.put(name)
                elif deed < 0.45 and len(hand.names) > 1:
                    name = chance.choice(hand.names)
                    kept.take_place(name)
                    hand.take(name)
                else:
                    one, other = chance.choice(hand.names), chance.choice(hand.names)
                    weight = chance.choice([0, 1, -1, 99, -99, chance.randint(-99, 99)])
                    kept.tie(one, other, weight)
                    hand.tie(one, other, weight)
                self.assert_web(kept, hand.web())

    def test_put_in_anew_it_stands_behind_without_ties(self):
        kept = KeptWeb("a")
        for name in "bc":
            kept.put_place(name)
        for one, other in itertools.combinations_with_replacement("abc", 2):
            kept.tie(one, other, 4)
        kept.take_place("b")
        kept.put_place("b")
        self.assert_web(kept, web_of("acb", {(0, 0): 4, (0, 1): 4, (1, 1): 4}))

    def test_tones(self):
        kept = KeptWeb("a")
        kept.put_place("b")
        kept.tie("a", "b", 99)
        self.assertEqual(tones_of(kept.web()), ((((-99, 1), (-99, 1)), 1), (((99, 1), (99, 1)), 1)))

    def test_what_was_told_stays(self):
        kept = KeptWeb("a")
        told, shown = [], []
        deeds = [
            lambda: kept.put_place("b"), lambda: kept.tie("a", "b", 2), lambda: kept.tie("b", "b", 1),
            lambda: kept.put_place("c"), lambda: kept.take_place("a"), lambda: kept.tie("b", "b", 0),
        ]
        for deed in deeds:
            told += [kept.web(), kept.poly()]
            shown += [repr(kept.web()), repr(kept.poly())]
            deed()
        self.assertEqual([repr(one) for one in told], shown)

    def test_two_kept_webs_do_not_know_of_one_another(self):
        one, other = KeptWeb("a"), KeptWeb("a")
        one.put_place("b")
        one.tie("a", "b", 1)
        self.assert_web(other, (("a",), ((0,),)))
        other.tie("a", "a", 3)
        other.put_place("c")
        self.assert_web(one, path_web(2))
        self.assert_web(other, web_of("ac", {(0, 0): 3}))
        third = KeptWeb("b")
        self.assert_web(third, (("b",), ((0,),)))

    def test_closed_walks_of_0_to_40_ties(self):
        kept = KeptWeb("a")
        for name in "bcdefgh":
            kept.put_place(name)
        for many in range(41):
            self.assertEqual(kept.closed(many), 8 if many == 0 else 0)
        for one, other in itertools.combinations("abcdefgh", 2):
            kept.tie(one, other, 99)
        # Tones: 7 times 99 once, and -99 seven times.
        for many in range(41):
            self.assertEqual(kept.closed(many), (7 * 99)**many + 7 * (-99)**many)

    def test_greatest(self):
        chance = random.Random(101)
        kept, hand = KeptWeb("a"), ByHand("a")
        for name in "bcdefgh":
            kept.put_place(name)
            hand.put(name)
        for one, other in itertools.combinations_with_replacement("abcdefgh", 2):
            weight = chance.choice([-99, 99])
            kept.tie(other, one, weight)
            hand.tie(one, other, weight)
        self.assert_web(kept, hand.web())
        self.assertEqual(kept.closed(40), closed_walks(hand.web(), 40))


class KeptRefuses(unittest.TestCase):
    def setUp(self):
        self.kept = KeptWeb("a")
        self.kept.put_place("b")
        self.kept.tie("a", "b", 3)

    def assert_word(self, word, function, *arguments):
        before = (self.kept.web(), self.kept.poly(), self.kept.closed(2))
        self.assertEqual(check_refused(self, NoName, function, *arguments).word, word)
        self.assertEqual((self.kept.web(), self.kept.poly(), self.kept.closed(2)), before)

    def test_put_in_what_is_there(self):
        self.assert_word("a", self.kept.put_place, "a")
        self.assert_word("b", self.kept.put_place, "b")
        self.kept.take_place("a")
        self.kept.put_place("a")
        self.assert_word("a", self.kept.put_place, "a")

    def test_taken_out_what_is_not_there(self):
        self.assert_word("c", self.kept.take_place, "c")
        self.kept.take_place("b")
        self.assert_word("b", self.kept.take_place, "b")

    def test_ties_of_what_is_not_there(self):
        self.assert_word("c", self.kept.tie, "c", "a", 1)
        self.assert_word("c", self.kept.tie, "a", "c", 1)
        self.assert_word("c", self.kept.tie, "c", "d", 1)
        self.assert_word("d", self.kept.tie, "d", "c", 0)
        self.assert_word("z", self.kept.tie, "z", "z", 0)

    def test_the_only_place(self):
        kept = KeptWeb("a")
        kept.tie("a", "a", 7)
        for _ in range(2):
            self.assertEqual(check_refused(self, NoWeb, kept.take_place, "a").row, 0)
            self.assertEqual(check_refused(self, NoName, kept.take_place, "b").word, "b")
            self.assertEqual(kept.web(), (("a",), ((7,),)))
        kept.put_place("b")
        kept.take_place("a")
        self.assertEqual(check_refused(self, NoWeb, kept.take_place, "b").row, 0)
        self.assertEqual(check_refused(self, NoName, kept.take_place, "a").word, "a")
        self.assertEqual(kept.web(), (("b",), ((0,),)))

    def test_each_method_stands_in_the_class_itself(self):
        for name in ("put_place", "take_place", "tie", "web", "poly", "closed"):
            self.assertIn(name, vars(KeptWeb))

    def test_by_name(self):
        kept = KeptWeb(name="a")
        kept.put_place(name="b")
        kept.tie(one="a", other="b", weight=4)
        self.assertEqual(kept.closed(many=2), 32)
        kept.take_place(name="a")
        self.assertEqual(kept.web(), (("b",), ((0,),)))


def with_tie(web, one, other, weight):
    at, beside = web[0].index(one), web[0].index(other)
    table = [list(row) for row in web[1]]
    table[at][beside] = table[beside][at] = weight
    return tuple(tuple(row) for row in table)


class TiePolys(unittest.TestCase):
    def check(self, web, one, other):
        told = tie_polys(web, one, other)
        self.assertTrue(is_polys(told), told)
        old, between, both = map(numbers_of, told)
        many = len(web[0])
        for weight in (0, 1, -1, 2, 99, -99, web[1][web[0].index(one)][web[0].index(other)]):
            rows = [(numbers + [0] * many + [0])[:many + 1] for numbers in (old, between, both)]
            wanted = [first - 2 * weight * second - weight**2 * third for first, second, third in zip(*rows)]
            self.assertEqual(poly_of(with_tie(web, one, other, weight)), poly(*wanted))
        self.assertEqual(told[0], poly_of(with_tie(web, one, other, 0)))
        left = [at for at, name in enumerate(web[0]) if name not in (one, other)]
        lesser = tuple(tuple(web[1][at][beside] for beside in left) for at in left)
        self.assertEqual(told[2], poly_of(lesser) if left else poly(1))
        self.assertEqual(tie_polys(web, other, one), told)
        # Whatever weight the tie has now, the three are the same.
        for weight in (0, 5, -99):
            self.assertEqual(tie_polys((web[0], with_tie(web, one, other, weight)), one, other), told)

    def test_all_pairs(self):
        for web in list(some_webs())[::3]:
            for one, other in itertools.permutations(web[0], 2):
                if web[0].index(one) < web[0].index(other) or len(web[0]) < 4:
                    self.check(web, one, other)

    def test_by_hand(self):
        self.assertEqual(tie_polys(path_web(2), "a", "b"), (poly(0, 0, 1), (), poly(1)))
        self.assertEqual(tie_polys(web_of("ab", {(0, 0): 3, (1, 1): 5}), "b", "a"), (poly(15, -8, 1), (), poly(1)))
        # The ring of three: between goes by the third place.
        self.assertEqual(tie_polys(full_web(3), "a", "b"), (poly(0, -2, 0, 1), poly(1), poly(0, 1)))
        self.assertEqual(tie_polys(path_web(3), "a", "c"), (poly(0, -2, 0, 1), poly(1), poly(0, 1)))
        self.assertEqual(tie_polys(path_web(3), "a", "b"), (poly(0, -1, 0, 1), (), poly(0, 1)))

    def test_eight_places(self):
        web = web_of("abcdefgh", {two: 99 - two[0] * 3 - two[1] for two in itertools.combinations_with_replacement(range(8), 2)})
        self.check(web, "a", "h")
        self.check(web, "e", "d")
        self.check(chance_web(random.Random(102), 8, names="abcdefgh"), "c", "b")

    def test_names_that_are_none(self):
        for one, other, word in (
            ("a", "a", "a"), ("b", "b", "b"), ("z", "a", "z"), ("a", "z", "z"), ("z", "y", "z"), ("y", "z", "y"), ("z", "z", "z"),
            ("", "a", ""), ("ab", "b", "ab"), ("b", "ab", "ab"),
        ):
            for web in (path_web(2), path_web(4)):
                self.assertEqual(check_refused(self, NoName, tie_polys, web, one, other).word, word)
        self.assertEqual(check_refused(self, NoName, tie_polys, path_web(1), "a", "a").word, "a")
        self.assertEqual(check_refused(self, NoName, tie_polys, path_web(1), "a", "b").word, "b")

    def test_asked_again_and_again(self):
        asked = [
            (tie_polys, {"web": web, "one": web[0][-1], "other": web[0][0]}, is_polys, False)
            for web in some_webs() if len(web[0]) > 1
        ]
        check_asked(self, asked[::4])


def is_polys(told):
    return is_row_of(told, is_poly) and len(told) == 3


if __name__ == "__main__":
    unittest.main()
