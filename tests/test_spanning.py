"""[28] and [29]: trees that span, and the parts that hang together."""

import itertools
import random
import unittest
from fractions import Fraction

from tests.helpers import (
    ALIKE_NAMES,
    chance_web,
    check_asked,
    cube_web,
    full_web,
    is_name,
    is_row_of,
    is_table,
    is_whole,
    path_web,
    ring_web,
    some_webs,
    star_web,
    web_of,
)
from webtones.roots.roots import roots_of
from webtones.trees.spanning import (
    hanging_parts,
    rest_table,
    spanning_trees,
    trees_by_going,
    trees_by_table,
    trees_by_tones,
)
from webtones.webs.tones import poly_of

COUNTS = (trees_by_table, trees_by_tones, trees_by_going)


def ties_of(web):
    """The ties in the order of a web's rows: pairs of names, with their weights."""
    many = len(web[0])
    return [
        ((web[0][one], web[0][other]), web[1][one][other])
        for one in range(many) for other in range(one + 1, many) if web[1][one][other] != 0
    ]


def is_tree(names, ties):
    """Whether so many ties, one less than names, join all names."""
    part = {name: {name} for name in names}
    for one, other in ties:
        if part[one] is not part[other]:
            whole = part[one] | part[other]
            for name in whole:
                part[name] = whole
    return len(ties) == len(names) - 1 and len(part[names[0]]) == len(names)


def all_trees(web):
    """All sets of ties that are trees, in their order, and the sum of their products."""
    ties = ties_of(web)
    trees, total = [], 0
    for chosen in itertools.combinations(ties, len(web[0]) - 1):
        if is_tree(web[0], [two for two, _ in chosen]):
            trees.append(tuple(two for two, _ in chosen))
            product = 1
            for _, weight in chosen:
                product *= weight
            total += product
    return trees, total


def tree_web(chance, many, most, share=0.6):
    """A web without weights below 0 and without places tied with themselves."""
    ties = {two: chance.randint(1, most) for two in itertools.combinations(range(many), 2) if chance.random() < share}
    return web_of(chance.sample(ALIKE_NAMES, many), ties)


def tree_webs():
    chance = random.Random(90)
    for many in range(1, 7):
        yield web_of("abcdef"[:many], {})
        for most in (1, 1, 3, 99):
            yield tree_web(chance, many, most, chance.choice([0.4, 0.7, 1]))
    yield tree_web(chance, 7, 1, 0.5)
    yield tree_web(chance, 8, 1, 0.4)
    yield tree_web(chance, 8, 99, 0.4)


def determinant_by_hand(table):
    """Gauss's way, by Python's own fractions."""
    rows = [[Fraction(number) for number in row] for row in table]
    told = Fraction(1)
    for at in range(len(rows)):
        leading = [beside for beside in range(at, len(rows)) if rows[beside][at] != 0]
        if not leading:
            return 0
        if leading[0] != at:
            rows[at], rows[leading[0]] = rows[leading[0]], rows[at]
            told = -told
        told *= rows[at][at]
        for beside in range(at + 1, len(rows)):
            factor = rows[beside][at] / rows[at][at]
            rows[beside] = [left - factor * right for left, right in zip(rows[beside], rows[at])]
    return told


class RestTable(unittest.TestCase):
    def test_by_hand(self):
        self.assertEqual(rest_table(path_web(3)), ((1, -1, 0), (-1, 2, -1), (0, -1, 1)))
        self.assertEqual(rest_table(web_of("abc", {(0, 1): 4, (0, 2): 99})), ((103, -4, -99), (-4, 4, 0), (-99, 0, 99)))
        self.assertEqual(rest_table((("a",), ((0,),))), ((0,),))

    def test_each(self):
        for web in tree_webs():
            told = rest_table(web)
            self.assertTrue(is_table(told), told)
            for at, row in enumerate(told):
                self.assertEqual(sum(row), 0)
                for beside, number in enumerate(row):
                    if at != beside:
                        self.assertEqual(number, -web[1][at][beside])


class Counted(unittest.TestCase):
    def assert_many(self, web, wanted):
        for count in COUNTS:
            with self.subTest(count=count.__name__, web=web):
                told = count(web)
                self.assertTrue(is_whole(told), told)
                self.assertEqual(told, wanted)

    def test_by_all_sets_of_ties(self):
        for web in tree_webs():
            self.assert_many(web, all_trees(web)[1])

    def test_by_hand(self):
        self.assert_many((("a",), ((0,),)), 1)
        self.assert_many(web_of("ab", {(0, 1): 7}), 7)
        self.assert_many(web_of("ab", {}), 0)
        self.assert_many(web_of("abc", {(0, 1): 2, (1, 2): 3, (0, 2): 5}), 6 + 10 + 15)
        self.assert_many(cube_web(), 384)
        for many in range(3, 9):
            self.assert_many(ring_web(many), many)
            self.assert_many(full_web(many), many**(many - 2))
            self.assert_many(star_web(many), 1)
            self.assert_many(path_web(many), 1)

    def test_webs_that_do_not_hang_together(self):
        for web in (
            web_of("abc", {(0, 1): 5}), web_of("abcd", {(0, 1): 1, (2, 3): 1}), web_of("abcdefgh", {}),
            web_of("abcdefg", {two: 99 for two in itertools.combinations(range(6), 2)}),
            web_of("abcdefg", {two: 99 for two in itertools.combinations(range(1, 7), 2)}),
        ):
            self.assert_many(web, 0)
            self.assertEqual(spanning_trees(web), [])

    def test_eight_places(self):
        chance = random.Random(91)
        webs = [web_of("abcdefgh", {two: 99 for two in itertools.combinations(range(8), 2)})]
        webs += [tree_web(chance, 8, 99, share) for share in (0.3, 0.6, 1, 1)]
        for web in webs:
            table = [row[:-1] for row in rest_table(web)[:-1]]
            self.assert_many(web, determinant_by_hand(table))
        self.assert_many(webs[0], 8**6 * 99**7)


class Trees(unittest.TestCase):
    def check(self, web):
        told = spanning_trees(web)
        self.assertTrue(is_trees(told), told)
        return told

    def test_by_all_sets_of_ties(self):
        for web in tree_webs():
            if all(weight <= 1 for row in web[1] for weight in row):
                self.assertEqual(self.check(web), all_trees(web)[0][:1000])

    def test_by_hand(self):
        self.assertEqual(self.check((("a",), ((0,),))), [()])
        self.assertEqual(self.check(path_web(2)), [(("a", "b"),)])
        ab, ac, bc = ("a", "b"), ("a", "c"), ("b", "c")
        self.assertEqual(self.check(full_web(3)), [(ab, ac), (ab, bc), (ac, bc)])
        self.assertEqual(self.check((("c", "a", "b"), full_web(3)[1])), [
            (("c", "a"), ("c", "b")), (("c", "a"), ("a", "b")), (("c", "b"), ("a", "b")),
        ])
        self.assertEqual(self.check(web_of("abc", {(0, 2): 1, (1, 2): 1})), [(ac, bc)])
        self.assertEqual(self.check(web_of("ab", {})), [])

    def test_at_most_a_thousand(self):
        self.assertEqual(len(self.check(cube_web())), 384)
        self.assertEqual(len(self.check(full_web(5))), 125)
        self.assertEqual(self.check(full_web(6)), all_trees(full_web(6))[0][:1000])
        told = self.check(full_web(7))
        self.assertEqual(len(told), 1000)
        self.assertEqual(told, all_trees(full_web(7))[0][:1000])
        self.assertEqual(len(self.check(full_web(8))), 1000)

    def test_just_a_thousand(self):
        # Five places all tied, and four all but one pair, with one in common: 125 times 8.
        ties = {two: 1 for two in itertools.combinations(range(5), 2)}
        ties |= {two: 1 for two in itertools.combinations(range(4, 8), 2) if two != (6, 7)}
        web = web_of("abcdefgh", ties)
        told = self.check(web)
        self.assertEqual(len(told), 1000)
        self.assertEqual(told, all_trees(web)[0])

    def test_eight_places_by_all_sets_of_ties_till_there_are_enough(self):
        ties = [two for two, _ in ties_of(full_web(8))]
        wanted = itertools.islice(
            (chosen for chosen in itertools.combinations(ties, 7) if is_tree(full_web(8)[0], chosen)), 1000,
        )
        self.assertEqual(self.check(full_web(8)), list(wanted))

    def test_told_again_when_the_told_list_was_emptied(self):
        for web in (full_web(4), path_web(1), full_web(8)):
            told = spanning_trees(web)
            kept = list(told)
            told.clear()
            self.assertEqual(spanning_trees(web), kept)
            told.append("other")
            spanning_trees(web).reverse()
            self.assertEqual(spanning_trees(web), kept)


def is_trees(told):
    return type(told) is list and all(
        is_row_of(tree, lambda tie: is_row_of(tie, is_name) and len(tie) == 2) for tree in told
    )


def parts_by_walking(web):
    left, parts = list(range(len(web[0]))), []
    while left:
        part, waiting = [], [left[0]]
        while waiting:
            place = waiting.pop()
            if place in left:
                left.remove(place)
                part.append(place)
                waiting += [beside for beside, weight in enumerate(web[1][place]) if weight != 0]
        parts.append(tuple(web[0][place] for place in sorted(part)))
    return tuple(parts)


class Parts(unittest.TestCase):
    def check(self, web):
        told = hanging_parts(web)
        self.assertTrue(is_parts(told), told)
        self.assertEqual(told, parts_by_walking(web), web)
        return told

    def test_many(self):
        chance = random.Random(92)
        for web in some_webs():
            self.check(web)
        for many in range(1, 9):
            for share in (0.1, 0.15, 0.2, 0.3):
                for _ in range(5):
                    self.check(chance_web(chance, many, -99, 99, share))

    def test_by_hand(self):
        self.assertEqual(hanging_parts(web_of("abc", {})), (("a",), ("b",), ("c",)))
        self.assertEqual(hanging_parts(web_of("cab", {(0, 2): -1})), (("c", "b"), ("a",)))
        self.assertEqual(hanging_parts(web_of("abcd", {(0, 3): -99, (1, 2): 99})), (("a", "d"), ("b", "c")))
        self.assertEqual(hanging_parts(web_of("abcd", {(2, 3): 1, (1, 3): 1, (0, 2): 1})), (tuple("abcd"),))
        self.assertEqual(hanging_parts(web_of("ab", {(0, 0): 5, (1, 1): -5})), (("a",), ("b",)))
        self.assertEqual(hanging_parts((("a",), ((3,),))), (("a",),))
        self.assertEqual(hanging_parts(web_of("hgfedcba", {(0, 7): 1, (7, 3): -1, (1, 2): 1})), (
            ("h", "e", "a"), ("g", "f"), ("d",), ("c",), ("b",),
        ))

    def test_as_many_as_0_is_a_tone_of_the_rest_table(self):
        for web in tree_webs():
            times = [many for (low, high), many in roots_of(poly_of(rest_table(web))) if low == high == (0, 1)]
            self.assertEqual(times, [len(hanging_parts(web))])


def is_parts(told):
    return is_row_of(told, lambda part: is_row_of(part, is_name))


class Asked(unittest.TestCase):
    def test_again_and_again(self):
        asked = []
        for web in tree_webs():
            asked.append((rest_table, {"web": web}, is_table, False))
            asked += [(count, {"web": web}, is_whole, False) for count in COUNTS]
            asked.append((spanning_trees, {"web": web}, is_trees, False))
            asked.append((hanging_parts, {"web": web}, is_parts, False))
        check_asked(self, asked)


if __name__ == "__main__":
    unittest.main()
