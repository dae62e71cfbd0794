"""[19], [20] and [21], and of [3] what it says of foldings: even partings, folded tables, the coarsest even one."""

import random
import unittest

from tests.helpers import (
    chance_web,
    check_asked,
    check_refused,
    cube_web,
    full_web,
    is_name,
    is_poly,
    is_row_of,
    is_table,
    is_truth,
    path_web,
    poly,
    ring_web,
    some_webs,
    star_web,
    sturm_ranks,
    times,
    web_of,
)
from webtones.errors import NoParting
from webtones.roots.roots import roots_of
from webtones.webs.partings import coarsest_even, folded, folded_polys, is_even
from webtones.webs.tones import poly_of


def all_partings(names):
    """All partings of the names, names and parts in their order."""
    if not names:
        yield ()
        return
    for rest in all_partings(names[1:]):
        yield ((names[0],),) + rest
        for at, part in enumerate(rest):
            yield ((names[0],) + part,) + rest[:at] + rest[at + 1:]


def chance_parting(chance, names):
    """A parting by chance, names and parts in any order."""
    names = chance.sample(names, len(names))
    parts = []
    for name in names:
        at = chance.randint(0, len(parts))
        if at == len(parts):
            parts.append([])
        parts[at].append(name)
    chance.shuffle(parts)
    return tuple(tuple(part) for part in parts)


def sums_of(web, name, parting):
    place = {one: at for at, one in enumerate(web[0])}
    return tuple(sum(web[1][place[name]][place[other]] for other in part) for part in parting)


def even_by_hand(web, parting):
    return all(len({sums_of(web, name, parting) for name in part}) == 1 for part in parting)


def is_within(fine, coarse):
    return all(any(set(part) <= set(whole) for whole in coarse) for part in fine)


def small_webs():
    chance = random.Random(50)
    webs = [path_web(5), ring_web(4), ring_web(6), star_web(5), full_web(4), web_of("abc", {})]
    # Sums that are the same where single weights are not.
    webs.append(web_of("abcd", {(0, 1): 3, (0, 2): -1, (1, 3): -1, (2, 3): 3}))
    webs.append(web_of("dcba", {(0, 2): 1, (0, 3): 2, (1, 2): 2, (1, 3): 1, (0, 0): 5, (1, 1): 5}))
    for many in range(1, 6):
        webs += [chance_web(chance, many, -1, 1), chance_web(chance, many, 0, 1, 0.8), chance_web(chance, many)]
    return webs


WRONG = [
    ((), "nothing"),
    ((("a", "b", "c"), ()), "an empty part"),
    (((), ("a", "b", "c")), "an empty part ahead"),
    (((), ), "an empty part alone"),
    ((("a", "b"),), "a name lacking"),
    ((("a",), ("b",)), "a name lacking"),
    ((("a", "b", "c", "d"),), "another name"),
    ((("a", "b"), ("d",)), "another name for one"),
    ((("a", "b", "c", "a"),), "a name twice in a part"),
    ((("a", "b"), ("c", "a")), "a name twice in two parts"),
    ((("a", "b"), ("c",), ("c",)), "a part twice"),
    ((("a", "a", "b"),), "a name twice for another"),
    ((("a", "b"), ("A",)), "no name"),
]


class Even(unittest.TestCase):
    def test_all_partings_of_small_webs(self):
        for web in small_webs():
            for parting in all_partings(web[0]):
                told = is_even(web, parting)
                self.assertTrue(is_truth(told))
                self.assertEqual(told, even_by_hand(web, parting), (web, parting))

    def test_any_order(self):
        chance = random.Random(51)
        for web in some_webs():
            for _ in range(3):
                parting = chance_parting(chance, web[0])
                self.assertIs(is_even(web, parting), even_by_hand(web, parting))

    def test_parts_of_one_are_even(self):
        for web in some_webs():
            self.assertIs(is_even(web, tuple((name,) for name in web[0])), True)
            self.assertIs(is_even(web, tuple((name,) for name in web[0][::-1])), True)

    def test_one_part(self):
        self.assertIs(is_even(ring_web(5), (tuple("abcde"),)), True)
        self.assertIs(is_even(path_web(3), (tuple("abc"),)), False)
        self.assertIs(is_even(path_web(2), (("b", "a"),)), True)

    def test_by_hand(self):
        self.assertIs(is_even(path_web(3), (("c", "a"), ("b",))), True)
        self.assertIs(is_even(path_web(3), (("a", "b"), ("c",))), False)
        self.assertIs(is_even(star_web(8), (tuple("bcdefgh"), ("a",))), True)
        # Even from one part to another, but not within.
        self.assertIs(is_even(web_of("abc", {(0, 0): 1}), (("a", "b"), ("c",))), False)

    def test_what_is_no_parting(self):
        for parting, _ in WRONG:
            check_refused(self, NoParting, is_even, path_web(3), parting)


class Folded(unittest.TestCase):
    def test_all_partings_of_small_webs(self):
        for web in small_webs():
            for parting in all_partings(web[0]):
                self.check(web, parting)

    def check(self, web, parting):
        if even_by_hand(web, parting):
            told = folded(web, parting)
            self.assertTrue(is_table(told), told)
            self.assertEqual(told, tuple(sums_of(web, part[0], parting) for part in parting))
            self.check_polys(web, parting, told)
        else:
            check_refused(self, NoParting, folded, web, parting)
            check_refused(self, NoParting, folded_polys, web, parting)

    def check_polys(self, web, parting, table):
        told = folded_polys(web, parting)
        self.assertTrue(is_row_of(told, is_poly), told)
        self.assertEqual(len(told), 3)
        small, whole, left = told
        self.assertEqual(small, poly_of(table))
        self.assertEqual(whole, poly_of(web[1]))
        self.assertEqual(times(small, left), whole)
        self.assertEqual(sum(many for _, many in roots_of(small)), len(table))

    def test_by_hand(self):
        web = star_web(5)
        self.assertEqual(folded(web, (("a",), ("b", "c", "d", "e"))), ((0, 4), (1, 0)))
        self.assertEqual(folded(web, (("e", "c", "d", "b"), ("a",))), ((0, 1), (4, 0)))
        self.assertEqual(folded(web, (("e", "c"), ("a",), ("b", "d"))), ((0, 1, 0), (2, 0, 2), (0, 1, 0)))
        self.assertEqual(folded(web_of("ab", {(0, 0): 2, (0, 1): -5, (1, 1): 2}), (("b", "a"),)), ((-3,),))

    def test_parts_of_one_in_any_order_are_the_table_in_that_order(self):
        web = web_of("abc", {(0, 1): 1, (1, 2): 2, (0, 0): 3})
        self.assertEqual(folded(web, (("a",), ("b",), ("c",))), web[1])
        self.assertEqual(folded(web, (("c",), ("a",), ("b",))), ((0, 0, 2), (0, 3, 1), (2, 1, 0)))

    def test_the_cube_by_how_far(self):
        parting = (("a",), ("b", "c", "e"), ("d", "f", "g"), ("h",))
        table = ((0, 3, 0, 0), (1, 0, 2, 0), (0, 2, 0, 1), (0, 0, 3, 0))
        self.assertEqual(folded(cube_web(), parting), table)
        small, whole, left = folded_polys(cube_web(), parting)
        self.assertEqual(small, poly(9, 0, -10, 0, 1))
        self.assertEqual(left, poly(1, 0, -2, 0, 1))
        self.assertEqual(whole, times(small, left))

    def test_tones_folded_are_among_the_old_ones(self):
        for web in (cube_web(), ring_web(8), star_web(7), path_web(7)):
            parting = coarsest_even(web, ((web[0][0],), web[0][1:]))
            small, whole, _ = folded_polys(web, parting)
            ours, theirs = sturm_ranks(small, whole)
            for rank in ours:
                theirs.remove(rank)

    def test_greatest(self):
        web = web_of("abcdefgh", {(one, other): 99 if one % 2 == other % 2 else -99 for one in range(8) for other in range(one, 8)})
        self.check(web, (tuple("aceg"), tuple("bdfh")))
        self.check(web, (tuple("abcdefgh"),))

    def test_what_is_no_parting(self):
        for parting, _ in WRONG:
            check_refused(self, NoParting, folded, path_web(3), parting)
            check_refused(self, NoParting, folded_polys, path_web(3), parting)


class Coarsest(unittest.TestCase):
    def assert_coarsest(self, web, parting):
        """Looked up among all even partings whose parts lie in its parts."""
        evens = [one for one in all_partings(web[0]) if even_by_hand(web, one) and is_within(one, parting)]
        least = min(evens, key=len)
        self.assertTrue(all(is_within(one, least) for one in evens))
        place = {name: at for at, name in enumerate(web[0])}
        wanted = sorted((tuple(sorted(part, key=place.get)) for part in least), key=lambda part: place[part[0]])
        told = coarsest_even(web, parting)
        self.assertTrue(is_row_of(told, lambda part: is_row_of(part, is_name)), told)
        self.assertEqual(told, tuple(wanted))
        self.assertIs(is_even(web, told), True)

    def test_all_partings_of_small_webs(self):
        for web in small_webs():
            for parting in list(all_partings(web[0]))[::3]:
                self.assert_coarsest(web, parting)

    def test_any_order(self):
        chance = random.Random(52)
        for web in small_webs():
            self.assert_coarsest(web, chance_parting(chance, web[0]))
            self.assert_coarsest(web, (tuple(chance.sample(web[0], len(web[0]))),))

    def test_by_hand(self):
        self.assertEqual(coarsest_even(path_web(5), (tuple("abcde"),)), (("a", "e"), ("b", "d"), ("c",)))
        self.assertEqual(coarsest_even(path_web(5), (tuple("edcba"),)), (("a", "e"), ("b", "d"), ("c",)))
        self.assertEqual(coarsest_even(path_web(5), (tuple("edcb"), ("a",))), tuple((name,) for name in "abcde"))
        self.assertEqual(coarsest_even(cube_web(), (tuple("hgfedcba"),)), (tuple("abcdefgh"),))
        self.assertEqual(
            coarsest_even(cube_web(), (tuple("hgfedcb"), ("a",))),
            (("a",), ("b", "c", "e"), ("d", "f", "g"), ("h",)),
        )
        web = web_of("zyx", {(0, 1): 1})
        self.assertEqual(coarsest_even(web, (("x", "y", "z"),)), (("z", "y"), ("x",)))

    def test_parts_of_one_stay(self):
        for web in some_webs():
            ones = tuple((name,) for name in web[0])
            self.assertEqual(coarsest_even(web, ones), ones)
            self.assertEqual(coarsest_even(web, ones[::-1]), ones)

    def test_webs_of_eight_places(self):
        chance = random.Random(53)
        for web in (chance_web(chance, 8), chance_web(chance, 8, 0, 1, 0.5), ring_web(8), full_web(8), path_web(8)):
            told = coarsest_even(web, (web[0],))
            self.assertTrue(even_by_hand(web, told))
            self.assertEqual(coarsest_even(web, told), told)
        self.assertEqual(coarsest_even(path_web(8), (tuple("abcdefgh"),)), (("a", "h"), ("b", "g"), ("c", "f"), ("d", "e")))

    def test_what_is_no_parting(self):
        for parting, _ in WRONG:
            check_refused(self, NoParting, coarsest_even, path_web(3), parting)


class Asked(unittest.TestCase):
    def test_by_place_and_by_name_again_and_again(self):
        asked = []
        for web in some_webs():
            arguments = {"web": web, "parting": coarsest_even(web, (web[0],))}
            asked.append((is_even, arguments, is_truth, True))
            asked.append((folded, arguments, is_table, True))
            asked.append((folded_polys, arguments, lambda told: is_row_of(told, is_poly), True))
            asked.append((coarsest_even, {"web": web, "parting": (web[0][::-1],)}, is_parting, True))
        check_asked(self, asked)

    def test_refused_again_and_again(self):
        for _ in range(3):
            for function in (is_even, folded, folded_polys, coarsest_even):
                with self.assertRaises(NoParting):
                    function(parting=(("a",),), web=path_web(2))
            with self.assertRaises(NoParting):
                folded(parting=(("a", "b"), ("c",)), web=path_web(3))


def is_parting(told):
    return is_row_of(told, lambda part: is_row_of(part, is_name))


if __name__ == "__main__":
    unittest.main()
