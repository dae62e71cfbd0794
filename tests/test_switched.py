"""[24]: webs switched by some of their places."""

import itertools
import random
import unittest
from fractions import Fraction

from tests.helpers import (
    ALIKE_NAMES,
    chance_web,
    check_asked,
    check_refused,
    cube_web,
    full_web,
    is_web,
    path_web,
    ring_web,
    star_web,
    web_of,
)
from webtones.alike.same import telling
from webtones.alike.switched import switched
from webtones.errors import NoName, NoParting
from webtones.webs.tones import poly_of


def turned_by_table(web, names):
    """The table times, from both sides, the one that leads each switched place to twice their mean less itself."""
    size = range(len(web[0]))
    inner = [at for at in size if web[0][at] in names]
    turn = [[Fraction(int(at == beside)) for beside in size] for at in size]
    for at in inner:
        for beside in inner:
            turn[at][beside] = Fraction(2, len(inner)) - (at == beside)
    half = [[sum(turn[at][k] * web[1][k][beside] for k in size) for beside in size] for at in size]
    whole = [[sum(half[at][k] * turn[k][beside] for k in size) for beside in size] for at in size]
    return web[0], tuple(tuple(row) for row in whole)


def may_be_switched(web, names):
    """Whether [24] lets the web be switched by these, at least one."""
    place = {name: at for at, name in enumerate(web[0])}
    inner = [place[name] for name in names]
    if len({sum(web[1][at][beside] for beside in inner) for at in inner}) > 1:
        return False
    for name in web[0]:
        if name not in names:
            weights = sorted(web[1][place[name]][at] for at in inner)
            half = len(inner) // 2
            if len(set(weights)) > 1 and weights != [0] * half + [1] * half:
                return False
    return True


# The ring of four is switched, one place more has ties with two of it: of the same tones as another web.
RING_AND_ONE = web_of("abcde", {(0, 1): 1, (1, 2): 1, (2, 3): 1, (3, 0): 1, (4, 0): 1, (4, 1): 1})
# Four places without ties among themselves, and three that have ties with two of them each.
EIGHT = web_of("abcdefgh", {
    (4, 0): 1, (4, 1): 1, (5, 1): 1, (5, 2): 1, (6, 0): 1, (6, 2): 1, (4, 5): 7, (6, 6): -3, (7, 4): 1,
})


def chance_switchable(chance, many, inner_many):
    """A web of so many places, the first ones of which may be switched."""
    ties = {}
    own, among = chance.randint(-99, 99), chance.randint(-99, 99)
    for one, other in itertools.combinations_with_replacement(range(inner_many), 2):
        ties[one, other] = own if one == other else among
    for place in range(inner_many, many):
        kind = chance.choice(["half", "half", "one weight", "none", "all"])
        if kind == "half" and inner_many % 2 == 0:
            ties.update({(place, at): 1 for at in chance.sample(range(inner_many), inner_many // 2)})
        else:
            weight = {"none": 0, "all": 1}.get(kind, chance.randint(-99, 99))
            ties.update({(place, at): weight for at in range(inner_many)})
        for beside in range(place, many):
            ties[place, beside] = chance.randint(-99, 99)
    names = chance.sample(ALIKE_NAMES, many)
    return web_of(names, ties), tuple(names[:inner_many])


class Switched(unittest.TestCase):
    def check(self, web, names):
        told = switched(web, names)
        self.assertTrue(is_web(told), told)
        self.assertEqual(told, turned_by_table(web, names), (web, names))
        self.assertEqual(poly_of(told[1]), poly_of(web[1]))
        self.assertEqual(switched(told, names), web)
        self.assertEqual(switched(web, names[::-1]), told)

    def check_any(self, web, names):
        if may_be_switched(web, names):
            self.check(web, names)
            return True
        check_refused(self, NoParting, switched, web, names)
        return False

    def test_all_parts_of_small_webs(self):
        chance = random.Random(70)
        webs = [RING_AND_ONE, path_web(4), ring_web(6), star_web(5), full_web(5), web_of("abcd", {}), cube_web()]
        webs += [chance_web(chance, many, 0, 1, 0.6) for many in range(1, 7) for _ in range(4)]
        webs += [chance_web(chance, many, -1, 2, 0.8) for many in range(1, 6) for _ in range(4)]
        counted = [0, 0]
        for web in webs:
            for many in range(1, len(web[0]) + 1):
                for names in itertools.combinations(web[0], many):
                    counted[self.check_any(web, names)] += 1
        self.assertGreater(min(counted), 100)

    def test_webs_that_may_be_switched(self):
        chance = random.Random(71)
        for many in range(1, 9):
            for inner_many in range(1, many + 1):
                for _ in range(4):
                    web, names = chance_switchable(chance, many, inner_many)
                    self.check(web, tuple(chance.sample(names, len(names))))

    def test_half_is_turned_about(self):
        self.assertEqual(
            switched(RING_AND_ONE, tuple("abcd")),
            web_of("abcde", {(0, 1): 1, (1, 2): 1, (2, 3): 1, (3, 0): 1, (4, 2): 1, (4, 3): 1}),
        )
        self.assertEqual(switched(EIGHT, tuple("abcd")), web_of("abcdefgh", {
            (4, 2): 1, (4, 3): 1, (5, 0): 1, (5, 3): 1, (6, 1): 1, (6, 3): 1, (4, 5): 7, (6, 6): -3, (7, 4): 1,
        }))
        self.assertEqual(switched(path_web(3), ("a", "b")[::-1]), switched(path_web(3), ("a", "b")))
        self.assertEqual(switched(path_web(3), ("a", "b")), web_of("abc", {(0, 1): 1, (0, 2): 1}))

    def test_it_may_be_another_web(self):
        told = switched(EIGHT, tuple("cbda"))
        self.assertEqual(poly_of(told[1]), poly_of(EIGHT[1]))
        self.assertIsNone(telling(EIGHT, told))

    def test_none_all_and_one_weight_stay(self):
        for weight in (0, 1, 2, -1, 99, -99):
            web = web_of("abcd", {(0, 1): 5, (0, 3): weight, (1, 3): weight, (2, 3): weight, (1, 2): 5, (0, 2): 5})
            self.assertEqual(switched(web, tuple("abc")), web)
        web = web_of("abcd", {(0, 2): 4, (1, 2): 4, (0, 3): 1})
        self.assertEqual(switched(web, ("a", "b")), web_of("abcd", {(0, 2): 4, (1, 2): 4, (1, 3): 1}))

    def test_one_place(self):
        for web in (path_web(4), RING_AND_ONE, EIGHT, web_of("ab", {(0, 1): -7, (0, 0): 99})):
            for name in web[0]:
                self.assertEqual(switched(web, (name,)), web)

    def test_all_places(self):
        self.assertEqual(switched(ring_web(5), tuple("ecabd")), ring_web(5))
        self.assertEqual(switched(full_web(8), tuple("abcdefgh")), full_web(8))
        self.assertEqual(switched((("a",), ((3,),)), ("a",)), (("a",), ((3,),)))
        check_refused(self, NoParting, switched, path_web(3), tuple("abc"))

    def test_none(self):
        for web in (path_web(1), path_web(3), EIGHT):
            check_refused(self, NoParting, switched, web, ())

    def test_an_odd_number(self):
        web = web_of("abcd", {(3, 0): 1})
        check_refused(self, NoParting, switched, web, tuple("abc"))
        self.assertEqual(switched(web_of("abcd", {(3, 0): 1, (3, 1): 1, (3, 2): 1}), tuple("abc"))[1][3], (1, 1, 1, 0))

    def test_not_even_among_themselves(self):
        check_refused(self, NoParting, switched, path_web(4), tuple("abc"))
        check_refused(self, NoParting, switched, web_of("abc", {(0, 0): 1}), ("a", "b"))
        # Even by a weight with itself that makes up for a lacking tie.
        web = web_of("abc", {(0, 1): 2, (2, 2): 2})
        self.assertEqual(switched(web, tuple("abc")), web)

    def test_other_weights_by_halves(self):
        for left, right in ((2, 0), (1, -1), (-1, 0), (1, 2), (99, 0), (5, 6)):
            web = web_of("abc", {(0, 2): left, (1, 2): right})
            check_refused(self, NoParting, switched, web, ("a", "b"))
        # Three of four, one of four; and two of 1 but the others not 0.
        for weights in ((1, 1, 1, 0), (1, 0, 0, 0), (1, 1, 0, 2), (1, 1, 2, 2), (0, 0, 2, 2), (1, 1, 0, -1)):
            web = web_of("abcde", {(4, at): weight for at, weight in enumerate(weights)})
            check_refused(self, NoParting, switched, web, tuple("abcd"))

    def test_one_wrong_place_among_right_ones(self):
        ties = {(4, 0): 1, (4, 1): 1, (5, 0): 3, (5, 1): 3, (5, 2): 3, (5, 3): 3}
        self.check(web_of("abcdefg", ties), tuple("abcd"))
        self.check(web_of("abcdefg", ties | {(5, 4): 1}), tuple("abcd"))
        for wrong in ((6, 0), (6, 3)):
            check_refused(self, NoParting, switched, web_of("abcdefg", ties | {wrong: 1}), tuple("abcd"))

    def test_names_that_are_none(self):
        for names, word in (
            (("z",), "z"), (("a", "z"), "z"), (("z", "y"), "z"), (("a", "a"), "a"), (("b", "a", "b"), "b"),
            (("a", "z", "a"), "z"), (("a", "a", "z"), "a"), (("a", "b", "c", "a"), "a"), (("ab",), "ab"),
            (("c", "b", "a", "d"), "d"), (("b", "b", "a", "a"), "b"),
        ):
            # Of a web that could not be switched by them, too: the name goes ahead.
            for web in (path_web(3), full_web(3), web_of("abc", {(0, 0): 2, (0, 1): 3})):
                self.assertEqual(check_refused(self, NoName, switched, web, names).word, word)

    def test_greatest(self):
        web = web_of("abcdefgh", {two: 99 if max(two) < 4 else -99 for two in itertools.combinations_with_replacement(range(8), 2)})
        self.check(web, tuple("abcd"))
        self.check(web, tuple("efgh"))
        self.check(web, tuple("abc"))

    def test_asked_again_and_again(self):
        asked = [(switched, {"web": web, "names": names}, is_web, False) for web, names in (
            (RING_AND_ONE, tuple("dcba")), (EIGHT, tuple("abcd")), (path_web(3), ("a", "b")), (cube_web(), tuple("abcdefgh")),
        )]
        check_asked(self, asked)
        for _ in range(2):
            check_refused(self, NoParting, switched, path_web(3), ())
            self.assertEqual(check_refused(self, NoName, switched, path_web(3), ("a", "a")).word, "a")


if __name__ == "__main__":
    unittest.main()
