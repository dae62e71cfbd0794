"""[22] and [23]: webs that are the same but for names, and papers that two are not."""

import itertools
import random
import unittest

from tests.helpers import (
    ALIKE_NAMES,
    chance_web,
    check_asked,
    cube_web,
    full_web,
    is_name,
    is_row_of,
    is_truth,
    is_whole,
    path_web,
    ring_web,
    star_web,
    web_of,
)
from webtones.alike.same import no_telling_paper, no_telling_shown, telling
from webtones.webs.tones import poly_of


def by_orders(one, other):
    """The first telling of all orders."""
    if len(one[0]) != len(other[0]):
        return None
    size = range(len(one[0]))
    for names in itertools.permutations(sorted(other[0])):
        place = [other[0].index(name) for name in names]
        if all(one[1][at][beside] == other[1][place[at]][place[beside]] for at in size for beside in size):
            return names
    return None


def mixed(chance, web, names):
    """The same web but for names, its places in another order."""
    order = chance.sample(range(len(web[0])), len(web[0]))
    table = tuple(tuple(web[1][at][beside] for beside in order) for at in order)
    return tuple(names), table


def pairs_of_webs(most):
    """Pairs of webs with as many places, the same but for names or not."""
    chance = random.Random(60)
    for many in range(1, most + 1):
        for least, greatest, share in ((-1, 1, 0.7), (0, 1, 0.5), (-99, 99, 0.6), (1, 1, 0.5)):
            for _ in range(4):
                one = chance_web(chance, many, least, greatest, share)
                names = chance.sample(ALIKE_NAMES, many)
                yield one, mixed(chance, one, names)
                yield one, chance_web(chance, many, least, greatest, share)
                # The same but for one weight.
                other = mixed(chance, one, names)
                at, beside = chance.randrange(many), chance.randrange(many)
                table = [list(row) for row in other[1]]
                table[at][beside] = table[beside][at] = table[at][beside] + chance.choice([-1, 1])
                yield one, (other[0], tuple(tuple(row) for row in table))


UNLIKE_OF_SAME_TONES = (star_web(5), web_of("abcde", {(0, 1): 1, (1, 2): 1, (2, 3): 1, (3, 0): 1}))


class Telling(unittest.TestCase):
    def assert_telling(self, one, other, wanted):
        told = telling(one, other)
        self.assertEqual(told, wanted)
        if told is not None:
            self.assertTrue(is_row_of(told, is_name), told)

    def test_by_all_orders(self):
        for one, other in pairs_of_webs(6):
            self.assert_telling(one, other, by_orders(one, other))

    def test_the_first_of_several_by_names_not_by_places(self):
        self.assert_telling(full_web(3), (("c", "a", "b"), full_web(3)[1]), ("a", "b", "c"))
        self.assert_telling(path_web(3), (("c", "b", "a"), path_web(3)[1]), ("a", "b", "c"))
        self.assert_telling(path_web(3), (("c", "a", "b"), path_web(3)[1]), ("b", "a", "c"))
        self.assert_telling(web_of("xy", {}), (("b", "aa"), ((0, 0), (0, 0))), ("aa", "b"))
        self.assert_telling(ring_web(4), (tuple("dbca"), ring_web(4)[1]), ("a", "c", "b", "d"))

    def test_a_web_with_itself(self):
        for web in (path_web(1), path_web(4), ring_web(8), cube_web(), full_web(8), star_web(8)):
            self.assert_telling(web, web, web[0])

    def test_weights_of_places_with_themselves(self):
        one = web_of("ab", {(0, 0): 2, (0, 1): 1})
        self.assert_telling(one, web_of("ab", {(1, 1): 2, (0, 1): 1}), ("b", "a"))
        self.assert_telling(one, web_of("ab", {(1, 1): -2, (0, 1): 1}), None)
        self.assert_telling(one, web_of("ab", {(0, 1): 1}), None)

    def test_weights_of_either_sign(self):
        self.assert_telling(web_of("abc", {(0, 1): -1, (1, 2): 1}), web_of("abc", {(0, 1): 1, (1, 2): -1}), ("c", "b", "a"))
        self.assert_telling(web_of("abc", {(0, 1): -1, (1, 2): 1}), web_of("abc", {(0, 1): 1, (1, 2): 1}), None)

    def test_the_same_tones_but_not_the_same(self):
        one, other = UNLIKE_OF_SAME_TONES
        self.assertEqual(poly_of(one[1]), poly_of(other[1]))
        self.assert_telling(one, other, None)
        self.assert_telling(other, one, None)

    def test_unlike_numbers_of_places(self):
        for many in range(1, 8):
            self.assert_telling(full_web(many), full_web(many + 1), None)
            self.assert_telling(full_web(many + 1), full_web(many), None)
            self.assert_telling(web_of("abcdefgh", {}), web_of("abcdefgh"[:many], {}), None)

    def test_one_place(self):
        self.assert_telling((("a",), ((5,),)), (("b",), ((5,),)), ("b",))
        self.assert_telling((("a",), ((5,),)), (("a",), ((-5,),)), None)

    def test_eight_places(self):
        chance = random.Random(61)
        for web in (chance_web(chance, 8), cube_web(), ring_web(8)):
            other = mixed(chance, web, chance.sample(ALIKE_NAMES, 8))
            self.assert_telling(web, other, by_orders(web, other))
        # All but the last place are alike: nearly every order is gone through.
        self.assert_telling(web_of("abcdefgh", {(7, 7): 1}), web_of("abcdefgh", {(7, 7): 2}), None)
        four = web_of("abcdefgh", {(at, (at + 1) % 4): 1 for at in range(4)} | {(4 + at, 4 + (at + 1) % 4): 1 for at in range(4)})
        self.assert_telling(ring_web(8), four, None)


def looked(one, other, paper):
    """Another looker, of papers that are at least tuples of pairs with a word and the kind of thing that it needs."""
    named = []

    def shown(number, told):
        word, thing = paper[number]
        just = len(told) - 1
        if word == "unlike":
            if thing not in one[0] or one[0].index(thing) > just:
                return False
            at = one[0].index(thing)
            return one[1][at][just] != other[1][other[0].index(told[at])][other[0].index(told[just])]
        left = [name for name in other[0] if name not in told]
        if not left or len(thing) != len(left):
            return False
        for knot in thing:
            if knot <= number or knot >= len(paper) or knot in named:
                return False
            named.append(knot)
        return all([shown(knot, told + [name]) for knot, name in zip(thing, left)])

    return len(paper) > 0 and shown(0, [])


def is_paper(paper):
    return is_row_of(paper, lambda knot: type(knot) is tuple and len(knot) == 2 and (
        knot[0] == "try" and is_row_of(knot[1], is_whole) or knot[0] == "unlike" and is_name(knot[1])
    ))


WITHOUT = [(one, other) for one, other in pairs_of_webs(5) if by_orders(one, other) is None] + [UNLIKE_OF_SAME_TONES]
WITH = [(one, other) for one, other in pairs_of_webs(4) if by_orders(one, other) is not None]


class Case(unittest.TestCase):
    def assert_shown(self, one, other, paper, wanted):
        told = no_telling_shown(one, other, paper)
        self.assertTrue(is_truth(told), told)
        self.assertEqual(told, wanted, (one, other, paper))


class Papers(Case):
    def test_each_paper_is_let_by(self):
        self.assertGreater(len(WITHOUT), 60)
        for one, other in WITHOUT:
            paper = no_telling_paper(one, other)
            self.assertTrue(is_paper(paper), paper)
            self.assertTrue(looked(one, other, paper))
            self.assert_shown(one, other, paper, True)

    def test_six_places(self):
        webs = [
            (ring_web(6), web_of("abcdef", {(0, 1): 1, (1, 2): 1, (2, 0): 1, (3, 4): 1, (4, 5): 1, (5, 3): 1})),
            (web_of("abcdef", {}), web_of("abcdef", {(5, 5): 1})),
            (web_of("abcdef", {(5, 5): 99}), web_of("fedcba", {(0, 0): -99})),
            (full_web(6), web_of("abcdef", {two: 1 for two in itertools.combinations(range(6), 2) if two != (0, 1)})),
            (chance_web(random.Random(62), 6), chance_web(random.Random(63), 6)),
        ]
        for one, other in webs:
            paper = no_telling_paper(one, other)
            self.assertTrue(is_paper(paper))
            self.assert_shown(one, other, paper, True)
            self.assertTrue(looked(one, other, paper))
            self.assert_shown(one, other, paper[:-1], False)
            self.assert_shown(one, one, paper, False)

    def test_one_place(self):
        one, other = (("a",), ((1,),)), (("b",), ((2,),))
        self.assert_shown(one, other, (("try", (1,)), ("unlike", "a")), True)
        self.assert_shown(one, other, no_telling_paper(one, other), True)
        self.assert_shown(one, one, (("try", (1,)), ("unlike", "a")), False)

    def test_knots_in_another_order(self):
        one, other = web_of("ab", {(0, 0): 1}), web_of("ab", {(0, 1): 1})
        paper = (("try", (2, 1)), ("unlike", "a"), ("unlike", "a"))
        self.assert_shown(one, other, paper, True)
        one, other = web_of("ab", {(0, 1): 2}), web_of("xy", {(0, 1): 1})
        self.assert_shown(one, other, (("try", (2, 1)), ("try", (4,)), ("try", (3,)), ("unlike", "a"), ("unlike", "a")), True)
        self.assert_shown(one, other, (("try", (1, 3)), ("try", (2,)), ("unlike", "a"), ("try", (4,)), ("unlike", "a")), True)

    def test_knots_to_which_none_leads_are_not_looked_at(self):
        one, other = (("a",), ((1,),)), (("b",), ((2,),))
        for knot in ((), None, 7, ("try", (0, 0, 99)), ("unlike", "z"), ("unlike", ["a"]), "x", ("try",), ("try", (2,))):
            self.assert_shown(one, other, (("try", (1,)), ("unlike", "a"), knot), True)
            self.assert_shown(one, other, (("try", (2,)), knot, ("unlike", "a")), True)


class NotLetBy(Case):
    ONE = web_of("ab", {(0, 1): 2, (1, 1): 3})
    OTHER = web_of("xy", {(0, 1): 1, (1, 1): 3})
    GOOD = (("try", (1, 3)), ("try", (2,)), ("unlike", "a"), ("unlike", "a"))

    def assert_not(self, paper):
        self.assert_shown(self.ONE, self.OTHER, paper, False)

    def test_the_good_one(self):
        self.assert_shown(self.ONE, self.OTHER, self.GOOD, True)

    def test_no_knots(self):
        self.assert_not(())

    def test_numbers_not_greater_than_the_knots_own(self):
        self.assert_not((("try", (0, 3)), *self.GOOD[1:]))
        self.assert_not((self.GOOD[0], ("try", (1,)), *self.GOOD[2:]))
        self.assert_not((self.GOOD[0], ("try", (0,)), *self.GOOD[2:]))
        self.assert_not((("try", (-1, 3)), *self.GOOD[1:]))
        self.assert_not((("try", (-3, 3)), *self.GOOD[1:]))
        self.assert_not((("try", (2, 3)), ("unlike", "a"), ("try", (1,)), ("unlike", "a")))

    def test_numbers_beyond_the_end(self):
        self.assert_not((("try", (1, 4)), *self.GOOD[1:]))
        self.assert_not((("try", (1, 10**30)), *self.GOOD[1:]))
        self.assert_not(self.GOOD[:3])
        self.assert_not(self.GOOD[:1])

    def test_numbers_named_twice(self):
        one, other = web_of("ab", {(0, 0): 1}), web_of("xy", {(0, 0): 2})
        self.assert_shown(one, other, (("try", (1, 2)), ("unlike", "a"), ("unlike", "a")), True)
        self.assert_shown(one, other, (("try", (1, 1)), ("unlike", "a"), ("unlike", "a")), False)
        one, other = web_of("ab", {(0, 1): 2}), web_of("xy", {(0, 1): 1})
        self.assert_shown(one, other, (("try", (1, 2)), ("try", (3,)), ("try", (4,)), ("unlike", "a"), ("unlike", "a")), True)
        self.assert_shown(one, other, (("try", (1, 2)), ("try", (3,)), ("try", (3,)), ("unlike", "a"), ("unlike", "a")), False)
        self.assert_shown(one, other, (("try", (1, 2)), ("try", (2,)), ("try", (3,)), ("unlike", "a")), False)

    def test_too_few_or_too_many(self):
        self.assert_not((("try", (1,)), *self.GOOD[1:]))
        self.assert_not((("try", (3,)), *self.GOOD[1:]))
        self.assert_not((("try", (1, 3, 4)), *self.GOOD[1:], ("unlike", "a")))
        self.assert_not((("try", ()), *self.GOOD[1:]))
        self.assert_not((self.GOOD[0], ("try", ()), *self.GOOD[2:]))
        self.assert_not((self.GOOD[0], ("try", (2, 4)), *self.GOOD[2:], ("unlike", "a")))

    def test_an_unlike_whose_weights_are_the_same(self):
        self.assert_not((*self.GOOD[:2], ("unlike", "b"), self.GOOD[3]))
        self.assert_not((self.GOOD[0], ("unlike", "a"), *self.GOOD[2:]))

    def test_a_name_that_is_not_told_or_none_of_the_first_webs(self):
        for name in ("z", "x", "y", "", "ab", "A", None, 0, ("a",), ["a"], True, b"a"):
            self.assert_not((*self.GOOD[:3], ("unlike", name)))
            self.assert_not((*self.GOOD[:2], ("unlike", name), self.GOOD[3]))
        self.assert_not((*self.GOOD[:3], ("unlike", "b")))
        self.assert_not((self.GOOD[0], ("unlike", "b"), *self.GOOD[2:]))

    def test_an_unlike_at_the_begin(self):
        for name in ("a", "b", "x"):
            self.assert_not((("unlike", name),))
            self.assert_not((("unlike", name), *self.GOOD[1:]))

    def test_a_try_at_which_all_are_told_already(self):
        self.assert_not((*self.GOOD[:2], ("try", ()), self.GOOD[3]))
        self.assert_not((*self.GOOD[:2], ("try", (4,)), self.GOOD[3], ("unlike", "a")))
        one, other = (("a",), ((1,),)), (("b",), ((2,),))
        self.assert_shown(one, other, (("try", (1,)), ("try", ())), False)
        self.assert_shown(one, other, (("try", (1,)), ("try", (2,)), ("unlike", "a")), False)

    def test_what_is_no_paper_at_all(self):
        things = (
            None, 0, 1, True, "try", "ab", b"ab", (), ("try",), ("unlike",), ("try", None), ("try", 1), ("try", "13"),
            ("try", [1, 3]), ("try", (1, None)), ("try", (1, "3")), ("try", (True, 3)), ("try", (1, 3.0)),
            ("try", (1, (3,))), ("try", (1, [3])), ("try", (1, 3), ()), ("tries", (1, 3)), ("Try", (1, 3)),
            (("try",), (1, 3)), (["try"], (1, 3)), (None, (1, 3)), (0, 1), ["try", (1, 3)], {"try": (1, 3)},
            ("unlike", "a", "b"), ("unlike", {}), {1, 2}, ("try", {1, 3}), ((1, 3), "try"), (b"try", (1, 3)),
        )
        for thing in things:
            self.assert_not((thing, *self.GOOD[1:]))
            self.assert_not((thing,))
            if thing != ("unlike", "a"):
                self.assert_not((self.GOOD[0], thing, *self.GOOD[2:]))
                self.assert_not((*self.GOOD[:3], thing))

    def test_other_words(self):
        for word in ("like", "Unlike", "unlike ", "", "a", None, 0):
            self.assert_not((*self.GOOD[:3], (word, "a")))
            self.assert_not((*self.GOOD[:2], (word, "a"), self.GOOD[3]))

    def test_what_is_no_tuple(self):
        for thing in (list(self.GOOD), None, 0, "paper", {0: ("unlike", "a")}):
            self.assert_not(thing)

    def test_unlike_numbers_of_places(self):
        self.assert_shown(self.ONE, (("x",), ((0,),)), (("try", (1,)), ("try", ())), False)
        self.assert_shown((("x",), ((0,),)), self.ONE, self.GOOD, False)

    def test_a_truth_is_no_number_of_a_knot(self):
        one, other = (("a",), ((1,),)), (("b",), ((2,),))
        self.assert_shown(one, other, (("try", (True,)), ("unlike", "a")), False)

    def test_webs_that_have_a_telling(self):
        chance = random.Random(64)
        for one, other in WITH:
            tried = [no_telling_paper(one, other)]
            for name in one[0]:
                tried.append(tuple(knot if knot[1] else ("unlike", name) for knot in tried[0]))
            for paper in tried:
                self.assert_shown(one, other, paper, False)
            for _ in range(5):
                self.assert_shown(one, other, changed(chance, chance.choice(tried), one[0]), False)

    def test_all_small_papers_of_a_web_with_itself(self):
        web = web_of("ab", {(0, 1): 1})
        knots = [("unlike", "a"), ("unlike", "b"), ("try", ())]
        knots += [("try", row) for many in (1, 2) for row in itertools.product(range(1, 5), repeat=many)]
        for many in (1, 2, 3):
            for paper in itertools.product(knots, repeat=many):
                self.assert_shown(web, web, paper, False)

    def test_changed_papers_by_another_looker(self):
        chance = random.Random(65)
        told = []
        for one, other in WITHOUT:
            paper = no_telling_paper(one, other)
            for _ in range(10):
                wrong = changed(chance, paper, one[0])
                wanted = looked(one, other, wrong)
                told.append(wanted)
                self.assert_shown(one, other, wrong, wanted)
        self.assertIn(True, told)
        self.assertIn(False, told)


def changed(chance, paper, names):
    """The paper with one knot changed, taken out, put in or told twice."""
    paper = list(paper)
    at = chance.randrange(len(paper))
    word, thing = paper[at]
    choice = chance.randrange(6)
    if choice == 0:
        del paper[at]
    elif choice == 1:
        paper.insert(at, chance.choice(paper))
    elif choice == 2:
        paper[at] = ("unlike", chance.choice(names))
    elif choice == 3 and word == "try" and thing:
        knots = list(thing)
        knots[chance.randrange(len(knots))] = chance.randrange(len(paper) + 1)
        paper[at] = ("try", tuple(knots))
    elif choice == 4 and word == "try":
        paper[at] = ("try", tuple(chance.sample(thing, len(thing))))
    else:
        paper.append(paper[at])
    return tuple(paper)


class Asked(unittest.TestCase):
    def test_by_place_again_and_again(self):
        asked = []
        for one, other in WITH[::4] + WITHOUT[::4]:
            asked.append((telling, {"one": one, "other": other}, lambda told: told is None or is_row_of(told, is_name), False))
        for one, other in WITHOUT[::4]:
            paper = no_telling_paper(one, other)
            asked.append((no_telling_paper, {"one": one, "other": other}, is_paper, False))
            asked.append((no_telling_shown, {"one": one, "other": other, "paper": paper}, is_truth, False))
            asked.append((no_telling_shown, {"one": one, "other": other, "paper": paper[:-1]}, is_truth, False))
        check_asked(self, asked)


if __name__ == "__main__":
    unittest.main()
