"""[32] and [33]: balanced webs, odd rings, webs turned by a part."""

import itertools
import random
import unittest

from tests.helpers import (
    ALIKE_NAMES,
    chance_web,
    check_asked,
    check_refused,
    full_web,
    is_name,
    is_row_of,
    is_truth,
    is_web,
    path_web,
    ring_web,
    some_webs,
    star_web,
    web_of,
)
from webtones.alike.signs import balance, balance_shown, turned_by
from webtones.errors import NoName
from webtones.trees.spanning import hanging_parts
from webtones.webs.tones import poly_of


def sides_by_hand(web):
    """All sides, sets of names, that [32] lets stand for one of two parts."""
    many = len(web[0])
    for size in range(many + 1):
        for side in itertools.combinations(web[0], size):
            if is_side_by_hand(web, side):
                yield set(side)


def is_side_by_hand(web, side):
    for one, weights in zip(web[0], web[1]):
        for other, weight in zip(web[0], weights):
            if (one in side) == (other in side):
                if weight < 0:
                    return False
            elif weight > 0:
                return False
    return True


def is_ring_by_hand(web, names):
    """Whether it is a ring as [32] tells it."""
    if len(names) < 2 or names[0] != names[-1] or any(name not in web[0] for name in names):
        return False
    unlike = names[:-1]
    if len(set(unlike)) != len(unlike) or len(unlike) == 2:
        return False
    place = [web[0].index(name) for name in names]
    weights = [web[1][one][other] for one, other in zip(place, place[1:])]
    return all(weights) and sum(weight < 0 for weight in weights) % 2 == 1


def is_told(told):
    return type(told) is tuple and len(told) == 2 and told[0] in ("balanced", "odd") and is_row_of(told[1], is_name)


def balanced_web(chance, many, share):
    """A web whose signs are by two sides."""
    side = [chance.choice([1, -1]) for _ in range(many)]
    ties = {}
    for one, other in itertools.combinations_with_replacement(range(many), 2):
        if chance.random() < share:
            ties[one, other] = side[one] * side[other] * chance.randint(1, 99)
    return web_of(chance.sample(ALIKE_NAMES, many), ties)


def sign_webs():
    chance = random.Random(110)
    for many in range(1, 9):
        for share in (0.15, 0.3, 0.5, 0.9):
            for _ in range(3):
                web = balanced_web(chance, many, share)
                yield web
                yield chance_web(chance, many, -2, 2, share)
                # One sign other.
                tied = [(one, other) for one in range(many) for other in range(one, many) if web[1][one][other]]
                if tied:
                    one, other = chance.choice(tied)
                    table = [list(row) for row in web[1]]
                    table[one][other] = table[other][one] = -web[1][one][other]
                    yield web[0], tuple(tuple(row) for row in table)


class Case(unittest.TestCase):
    def assert_shown(self, web, told, wanted):
        answer = balance_shown(web, told)
        self.assertTrue(is_truth(answer), answer)
        self.assertEqual(answer, wanted, (web, told))


class Balance(Case):
    def check(self, web):
        told = balance(web)
        self.assertTrue(is_told(told), told)
        sides = list(sides_by_hand(web))
        if sides:
            firsts = {part[0] for part in hanging_parts(web)}
            wanted = [side for side in sides if firsts <= side]
            self.assertEqual(len(wanted), 1)
            self.assertEqual(told, ("balanced", tuple(name for name in web[0] if name in wanted[0])), web)
        else:
            self.assertEqual(told[0], "odd", web)
            self.assertTrue(is_ring_by_hand(web, told[1]), (web, told))
        self.assert_shown(web, told, True)
        self.assert_shown(web, ("odd" if sides else "balanced", told[1]), False)
        return told[0]

    def test_many(self):
        words = [self.check(web) for web in sign_webs()]
        self.assertGreater(words.count("balanced"), 60)
        self.assertGreater(words.count("odd"), 60)
        for web in some_webs():
            self.check(web)

    def test_no_weight_below_0(self):
        for web in (path_web(5), full_web(8), web_of("zyx", {}), (("a",), ((0,),)), (("a",), ((99,),)), web_of("ba", {(0, 0): 1})):
            self.assertEqual(balance(web), ("balanced", web[0]))
            self.check(web)

    def test_all_weights_below_0(self):
        def below(web):
            return web[0], tuple(tuple(-weight for weight in row) for row in web[1])

        self.assertEqual(balance(below(path_web(4))), ("balanced", ("a", "c")))
        self.assertEqual(balance(below(star_web(4))), ("balanced", ("a",)))
        self.assertEqual(balance(below(ring_web(6))), ("balanced", ("a", "c", "e")))
        for web in (below(ring_web(5)), below(full_web(8)), below(ring_web(3))):
            self.assertEqual(self.check(web), "odd")

    def test_rings(self):
        for many in range(3, 9):
            for below in range(many + 1):
                web = web_of("abcdefgh"[:many], {(at, (at + 1) % many): -1 if at < below else 1 for at in range(many)})
                self.assertEqual(self.check(web), "odd" if below % 2 else "balanced")
                if below % 2:
                    self.assertEqual(len(balance(web)[1]), many + 1)

    def test_places_tied_with_themselves(self):
        self.assertEqual(balance((("a",), ((-1,),))), ("odd", ("a", "a")))
        self.assertEqual(balance((("a",), ((1,),))), ("balanced", ("a",)))
        self.assertEqual(balance(web_of("abc", {(0, 1): -1, (2, 2): -5})), ("odd", ("c", "c")))
        self.assertEqual(balance(web_of("abc", {(0, 1): -1, (2, 2): 5, (1, 1): 2})), ("balanced", ("a", "c")))

    def test_several_parts(self):
        web = web_of("dcbaz", {(0, 2): -1, (1, 3): -4})
        self.assertEqual(balance(web), ("balanced", ("d", "c", "z")))
        web = web_of("abcdef", {(0, 5): -1, (1, 4): 1, (2, 3): -1})
        self.assertEqual(balance(web), ("balanced", ("a", "b", "c", "e")))
        web = web_of("abcdef", {(0, 1): -1, (2, 3): 1, (3, 4): 1, (4, 2): -1})
        self.assertEqual(self.check(web), "odd")


class Shown(Case):
    def test_each_side_of_each_part_in_any_order(self):
        chance = random.Random(111)
        for web in sign_webs():
            sides = list(sides_by_hand(web))
            for side in sides[:16]:
                self.assert_shown(web, ("balanced", tuple(chance.sample(sorted(side), len(side)))), True)
            if sides:
                self.assertEqual(len(sides), 2**len(hanging_parts(web)))

    def test_all_sets_of_names_of_small_webs(self):
        for web in sign_webs():
            if len(web[0]) <= 4:
                for size in range(len(web[0]) + 1):
                    for names in itertools.permutations(web[0], size):
                        self.assert_shown(web, ("balanced", names), is_side_by_hand(web, names))

    def test_all_rings_of_small_webs(self):
        chance = random.Random(112)
        for web in [chance_web(chance, many, -1, 1, 0.9) for many in (1, 2, 3, 3, 4, 4)]:
            for size in range(6):
                for names in itertools.product(web[0], repeat=size):
                    self.assert_shown(web, ("odd", names), is_ring_by_hand(web, names))

    def test_names_lacking_twice_or_of_none(self):
        web = web_of("abcd", {(0, 1): -1, (1, 2): 1, (2, 3): -1})
        for names in (("a", "d"), ("d", "a"), ("b", "c"), ("c", "b")):
            self.assert_shown(web, ("balanced", names), True)
        for names in (
            ("a",), ("b",), ("a", "b"), ("a", "a", "d"), ("a", "d", "d"), ("a", "d", "z"), ("a", "z"), ("a", "d", "A"), ("ad",),
            ("a", "d", ""), ("a", "d", None), ("a", "d", 0), ("a", ["d"]), ("a", "b", "c", "d"), ("a", "d", ("a",)),
        ):
            self.assert_shown(web, ("balanced", names), False)

    def test_no_names(self):
        self.assert_shown(path_web(3), ("balanced", ()), True)
        self.assert_shown(path_web(3), ("balanced", ("a", "b", "c")), True)
        self.assert_shown(web_of("ab", {(0, 1): -1}), ("balanced", ()), False)
        self.assert_shown(web_of("ab", {(0, 1): -1}), ("balanced", ("a", "b")), False)
        self.assert_shown(web_of("ab", {(0, 0): -1}), ("balanced", ()), False)
        for web in (path_web(3), web_of("ab", {(0, 0): -1})):
            self.assert_shown(web, ("odd", ()), False)

    def test_rings_that_are_none(self):
        web = web_of("abcd", {(0, 1): -1, (1, 2): 1, (2, 0): 1, (2, 3): 1, (3, 3): -2, (1, 1): 3})
        for names in ("abca", "bcab", "cabc", "acba", "dd"):
            self.assert_shown(web, ("odd", tuple(names)), True)
        for names in (
            "abc", "ab", "a", "aba", "bab", "abab", "abcab", "abcabca", "abcabcabca", "abcdca", "aa", "bb", "cc", "abda", "adba",
            "cdc", "ddd", "dddd", "abbca", "dcd", "abcaa", "aabca", "abcz", "zabz", "zz",
        ):
            self.assert_shown(web, ("odd", tuple(names)), False)
        # All ties above 0: a ring, but an even number below 0.
        self.assert_shown(ring_web(4), ("odd", tuple("abcda")), False)
        two = web_of("abc", {(0, 1): -1, (1, 2): -1, (2, 0): 1})
        self.assert_shown(two, ("odd", tuple("abca")), False)
        # An odd number below 0, but it does not close, or places are not tied.
        row = web_of("abc", {(0, 1): -1, (1, 2): 1})
        for names in ("abca", "abc", "aba", "ab"):
            self.assert_shown(row, ("odd", tuple(names)), False)

    def test_rings_longer_than_the_web(self):
        web = web_of("abc", {(0, 1): -1, (1, 2): 1, (2, 0): 1})
        self.assert_shown(web, ("odd", tuple("abca")), True)
        self.assert_shown(web, ("odd", tuple("abcabca")), False)
        self.assert_shown(web, ("odd", tuple("abcabcabca")), False)

    def test_other_words_and_things(self):
        web = web_of("abc", {(0, 1): -1, (1, 2): 1, (2, 0): 1})
        ring = tuple("abca")
        for told in (
            ("even", ring), ("Odd", ring), ("", ring), (None, ring), (0, ring), (("odd",), ring), (["odd"], ring), ("odd", ring, ()),
            ("odd",), (), None, "odd", 0, ["odd", ring], ("odd", list(ring)), ("odd", "abca"), ("odd", None), ("odd", (1, 2, 3, 1)),
            ("odd", (None, None)), ("odd", (["a"], ["a"])), (ring, "odd"),
        ):
            self.assert_shown(web, told, False)
        for told in (("Balanced", ("a",)), ("even", ("a",)), ("balanced", "a"), ("balanced", ["a"]), ("balanced", None), ("balanced",)):
            self.assert_shown(web_of("ab", {(0, 1): -1}), told, False)


def turned_by_hand(web, names):
    return web[0], tuple(
        tuple(-weight if (one in names) != (other in names) else weight for other, weight in zip(web[0], weights))
        for one, weights in zip(web[0], web[1])
    )


class Turned(unittest.TestCase):
    def test_all_parts(self):
        chance = random.Random(113)
        for web in list(some_webs())[::3]:
            for many in range(len(web[0]) + 1):
                names = tuple(chance.sample(web[0], many))
                told = turned_by(web, names)
                self.assertTrue(is_web(told), told)
                self.assertEqual(told, turned_by_hand(web, names))
                self.assertEqual(told, turned_by(web, tuple(name for name in web[0] if name not in names)))
                self.assertEqual(poly_of(told[1]), poly_of(web[1]))
                self.assertEqual(turned_by(told, names), web)

    def test_by_hand(self):
        web = web_of("abc", {(0, 1): 2, (1, 2): -3, (0, 0): -5, (1, 1): 7})
        self.assertEqual(turned_by(web, ()), web)
        self.assertEqual(turned_by(web, ("c", "a", "b")), web)
        self.assertEqual(turned_by(web, ("b",)), web_of("abc", {(0, 1): -2, (1, 2): 3, (0, 0): -5, (1, 1): 7}))
        self.assertEqual(turned_by(web, ("c",)), web_of("abc", {(0, 1): 2, (1, 2): 3, (0, 0): -5, (1, 1): 7}))
        self.assertEqual(turned_by((("a",), ((-4,),)), ("a",)), (("a",), ((-4,),)))

    def test_a_balanced_one_by_its_part(self):
        many = 0
        for web in sign_webs():
            word, names = balance(web)
            if word == "balanced":
                many += 1
                told = turned_by(web, names)
                self.assertTrue(all(weight >= 0 for row in told[1] for weight in row))
                self.assertEqual(told[1], tuple(tuple(abs(weight) for weight in row) for row in web[1]))
        self.assertGreater(many, 60)

    def test_names_that_are_none(self):
        for names, word in (
            (("z",), "z"), (("a", "z"), "z"), (("z", "y"), "z"), (("a", "a"), "a"), (("b", "a", "b"), "b"), (("a", "z", "a"), "z"),
            (("a", "a", "z"), "a"), (("a", "b", "c", "a"), "a"), (("a", "b", "c", "d"), "d"), (("",), ""),
        ):
            self.assertEqual(check_refused(self, NoName, turned_by, path_web(3), names).word, word)

    def test_greatest(self):
        web = web_of("abcdefgh", {two: (-1)**sum(two) * 99 for two in itertools.combinations_with_replacement(range(8), 2)})
        told = turned_by(web, tuple("hfdb"))
        self.assertEqual(told[1], ((99,) * 8,) * 8)


class Asked(unittest.TestCase):
    def test_again_and_again(self):
        asked = []
        for web in list(sign_webs())[::4]:
            asked.append((balance, {"web": web}, is_told, False))
            asked.append((balance_shown, {"web": web, "told": balance(web)}, is_truth, False))
            asked.append((turned_by, {"web": web, "names": web[0][1::2]}, is_web, False))
        check_asked(self, asked)


if __name__ == "__main__":
    unittest.main()
