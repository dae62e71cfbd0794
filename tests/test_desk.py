"""[38]: the desk."""

import copy
import itertools
import random
import unittest
from fractions import Fraction

from tests.helpers import (
    chance_fraction,
    check_refused,
    is_whole,
    line,
    lone_part,
    numbers_of,
    poly,
    sturm_chain,
    sturm_ranks,
    turns_at,
    value,
)
from webtones.alike.signs import balance, balance_shown
from webtones.errors import NoAsk, NoName, NoRoot
from webtones.trees.spanning import trees_by_going
from webtones.webs.partings import coarsest_even
from webtones.webs.texts import read_web
from webtones.webs.tones import poly_of
from webtones.webs.walks import closed_walks
from webtones.whole import Desk, tone_shown

QUESTIONS = ("web", "poly", "tones", "trees", "balance", "parts")


def desk_of(*lines):
    """A desk behind these lines, which tell nothing."""
    desk = Desk()
    for one in lines:
        assert desk.ask(one) == []
    return desk


def desk_by(text):
    """A desk that keeps the web of the text."""
    names, table = read_web(text)
    desk = Desk()
    if names[0] != "a":
        desk.ask(f"place {names[0]}")
        desk.ask("leave a")
    for name in names[1:]:
        desk.ask(f"place {name}")
    for at, name in enumerate(names):
        for beside in range(at, len(names)):
            desk.ask(f"tie {name} {names[beside]} {table[at][beside]}")
    return desk


def asked_all(desk):
    """What the desk tells of all that changes nothing, refusals too."""
    told = []
    for question in QUESTIONS + ("closed 3", "side 0 1/2"):
        try:
            told.append(desk.ask(question))
        except NoAsk:
            told.append("refused")
    return told


def is_texts(told):
    return type(told) is list and all(type(text) is str for text in told)


class Case(unittest.TestCase):
    def assert_told(self, desk, asked, wanted):
        told = desk.ask(asked)
        self.assertTrue(is_texts(told), told)
        self.assertEqual(told, wanted, asked)

    def assert_refused(self, desk, refusal, asked):
        before = asked_all(desk)
        told = check_refused(self, refusal, desk.ask, asked)
        self.assertEqual(asked_all(desk), before, asked)
        return told


class AtFirst(Case):
    def test_one_place_without_ties(self):
        desk = Desk()
        self.assert_told(desk, "web", ["a"])
        self.assert_told(desk, "poly", ["0 1"])
        self.assert_told(desk, "tones", ["0 1"])
        self.assert_told(desk, "trees", ["1"])
        self.assert_told(desk, "balance", ["balanced a"])
        self.assert_told(desk, "parts", ["a"])
        self.assert_told(desk, "closed 0", ["1"])
        self.assert_told(desk, "closed 1", ["0"])
        self.assert_told(desk, "side 0 0", ["same"])
        self.assert_told(desk, "side 0 1/3", ["less"])
        self.assert_told(desk, "side 0 -1/3", ["greater"])

    def test_line_by_its_name(self):
        self.assertEqual(Desk().ask(line="web"), ["a"])

    def test_ask_stands_in_the_class_itself(self):
        self.assertIn("ask", vars(Desk))


class Changes(Case):
    def test_deeds_tell_nothing(self):
        desk = Desk()
        for asked in ("place b", "tie a b 3", "tie b b -99", "tie a b 0", "leave a", "place a"):
            self.assert_told(desk, asked, [])
        self.assert_told(desk, "web", ["b a", "b b -99"])

    def test_behind_each_change(self):
        desk = Desk()
        desk.ask("place c")
        desk.ask("place b")
        self.assert_told(desk, "web", ["a c b"])
        desk.ask("tie b a 1")
        desk.ask("tie c b 1")
        self.assert_told(desk, "web", ["a c b", "a b 1", "c b 1"])
        self.assert_told(desk, "poly", ["0 -2 0 1"])
        self.assert_told(desk, "tones", ["-2 -1 1", "0 1", "1 2 1"])
        self.assert_told(desk, "trees", ["1"])
        self.assert_told(desk, "parts", ["a c", "b"])
        self.assert_told(desk, "balance", ["balanced a c b"])
        self.assert_told(desk, "closed 4", ["8"])
        self.assert_told(desk, "side 2 3/2", ["less"])
        desk.ask("tie a c -1")
        self.assert_told(desk, "web", ["a c b", "a c -1", "a b 1", "c b 1"])
        self.assert_told(desk, "poly", ["2 -3 0 1"])
        self.assert_told(desk, "tones", ["-2 1", "1 2"])
        self.assertEqual(desk.ask("balance")[0].split(" ")[0], "odd")
        self.assert_refused(desk, NoAsk, "trees")
        self.assert_told(desk, "parts", ["a c", "b"])
        desk.ask("leave b")
        self.assert_told(desk, "web", ["a c", "a c -1"])
        self.assert_told(desk, "balance", ["balanced a"])
        self.assert_told(desk, "parts", ["a c"])
        desk.ask("tie c a 0")
        self.assert_told(desk, "web", ["a c"])
        self.assert_told(desk, "tones", ["0 2"])
        self.assert_told(desk, "trees", ["0"])
        desk.ask("place b")
        self.assert_told(desk, "web", ["a c b"])
        desk.ask("leave a")
        desk.ask("leave c")
        self.assert_told(desk, "web", ["b"])
        desk.ask("tie b b 99")
        self.assert_told(desk, "web", ["b", "b b 99"])
        self.assert_told(desk, "tones", ["99 1"])

    def test_weights_of_99(self):
        desk = desk_of("place b", "tie a b 99", "tie a a -99")
        self.assert_told(desk, "web", ["a b", "a a -99", "a b 99"])
        for weight in ("100", "-100", "999", "-9999999999999999999999"):
            self.assert_refused(desk, NoAsk, f"tie a b {weight}")

    def test_eight_places_and_no_ninth(self):
        desk = desk_of(*[f"place {name}" for name in "bcdefgh"])
        self.assert_told(desk, "web", ["a b c d e f g h"])
        self.assert_refused(desk, NoAsk, "place i")
        self.assert_refused(desk, NoAsk, "place a")
        desk.ask("leave a")
        self.assert_told(desk, "place i", [])
        self.assert_told(desk, "web", ["b c d e f g h i"])
        self.assert_refused(desk, NoAsk, "place a")

    def test_one_place_alone_does_not_leave(self):
        desk = Desk()
        self.assert_refused(desk, NoAsk, "leave a")
        self.assert_refused(desk, NoAsk, "leave b")
        self.assert_refused(desk, NoAsk, "leave A")
        desk.ask("place b")
        self.assertEqual(self.assert_refused(desk, NoName, "leave c").word, "c")
        desk.ask("leave a")
        self.assert_refused(desk, NoAsk, "leave b")
        self.assert_refused(desk, NoAsk, "leave a")

    def test_a_name_that_is_there(self):
        desk = desk_of("place abcdefgh")
        self.assert_refused(desk, NoAsk, "place a")
        self.assert_refused(desk, NoAsk, "place abcdefgh")

    def test_names_that_are_none_of_the_webs(self):
        desk = desk_of("place b")
        for asked, word in (
            ("leave c", "c"), ("tie c a 1", "c"), ("tie a c 1", "c"), ("tie c d 1", "c"), ("tie d c 0", "d"), ("tie z z -5", "z"),
            ("leave abcdefgh", "abcdefgh"),
        ):
            self.assertEqual(self.assert_refused(desk, NoName, asked).word, word)


WEBS = (
    "a", "m\nm m -7", "a b\na b 3", "a b c d\na b\nb c\nc d", "a b c d e\na b\nb c\nc d\nd e\na e", "a b c\na b -1\nb c -1\na c -1",
    "c b a\na a 5\nb c -99", "p q r s\np q\nr s -2", "a b c d\na b\na c\na d\nb c\nb d\nc d",
    "a b c d e f g h\na b\nb c\nc d\nd e\ne f\nf g\ng h\na h", "x y z\nx x 2\ny y 2\nz z 2",
)


class Told(Case):
    def desks(self):
        for text in WEBS:
            yield read_web(text), desk_by(text)
        chance = random.Random(140)
        for _ in range(25):
            many = chance.randint(1, 8)
            lines = [" ".join("abcdefgh"[:many])]
            least, most = chance.choice([(-1, 1), (1, 1), (1, 9), (-99, 99)])
            for one, other in itertools.combinations_with_replacement("abcdefgh"[:many], 2):
                weight = chance.randint(least, most)
                if weight != 0 and chance.random() < 0.6 and (one != other or least < 0):
                    lines.append(f"{one} {other} {weight}")
            yield read_web("\n".join(lines)), desk_by("\n".join(lines))

    def test_web_and_poly(self):
        for web, desk in self.desks():
            told = desk.ask("web")
            self.assertTrue(is_texts(told))
            self.assertEqual(read_web("\n".join(told)), web)
            self.assert_told(desk, "poly", [" ".join(str(number) for number in numbers_of(poly_of(web[1])))])

    def test_tones(self):
        for web, desk in self.desks():
            told = desk.ask("tones")
            self.assertTrue(is_texts(told))
            self.assertEqual(told, tones_by_hand(web), web)

    def test_tones_by_hand(self):
        self.assert_told(desk_by("a b\na b 3"), "tones", ["-3 1", "3 1"])
        self.assert_told(desk_by("a b c d\na b\nb c\nc d"), "tones", ["-2 -1 1", "-1 0 1", "0 1 1", "1 2 1"])
        self.assert_told(desk_by("a b c d e\na b\nb c\nc d\nd e\na e"), "tones", ["-2 -1 2", "0 1 2", "2 1"])
        self.assert_told(desk_by("a b c d\na b\na c\na d\nb c\nb d\nc d"), "tones", ["-1 3", "3 1"])
        # Tones just above 99, and just below 0.
        self.assert_told(desk_by("a b c\na b 99\nb c 1"), "tones", ["-100 -99 1", "0 1", "99 100 1"])
        self.assert_told(desk_by("a b\na a 99\na b 1"), "tones", ["-1 0 1", "99 100 1"])

    def test_stretches_with_a_whole_number_within(self):
        # The square roots of 5, told by stretches that no desk has, but that [9] lets be told.
        for number, stretch, wanted in (
            (1, ((3, 2), (5, 2)), "2 3"), (1, ((2, 1), (3, 1)), "2 3"), (1, ((11, 5), (16, 5)), "2 3"), (1, ((0, 1), (99, 1)), "2 3"),
            (0, ((-5, 2), (-3, 2)), "-3 -2"), (0, ((-3, 1), (-2, 1)), "-3 -2"), (0, ((-16, 5), (-11, 5)), "-3 -2"),
        ):
            self.assertEqual(tone_shown(poly(-5, 0, 1), number, stretch), wanted)

    def test_side(self):
        chance = random.Random(141)
        for web, desk in self.desks():
            polynomial = poly_of(web[1])
            many = len(desk.ask("tones"))
            for number in range(many):
                for fraction in (chance_fraction(chance), Fraction(chance.randint(-3, 3)), Fraction(chance.randint(-9, 9), 4)):
                    tones, ours = sturm_ranks(polynomial, line(fraction))
                    rank = sorted(set(tones))[number]
                    wanted = "less" if rank < ours[0] else "greater" if rank > ours[0] else "same"
                    for factor in (1, 2, 6):
                        text = f"{fraction.numerator * factor}/{fraction.denominator * factor}"
                        self.assert_told(desk, f"side {number} {text}", [wanted])
                    if fraction.denominator == 1:
                        self.assert_told(desk, f"side {number} {fraction.numerator}", [wanted])
            for number in (many, many + 1, -1, -many, 10**30):
                self.assert_refused(desk, NoRoot, f"side {number} 1/2")

    def test_side_by_hand(self):
        desk = desk_by("a b c\na b\nb c")
        for asked, wanted in (
            ("side 2 141421/100000", "greater"), ("side 2 141422/100000", "less"), ("side 0 -2", "greater"), ("side 0 -1", "less"),
            ("side 1 0", "same"), ("side 1 0/7", "same"), ("side 1 1/1000000", "less"), ("side 1 -4/2", "greater"), ("side 2 2/1", "less"),
        ):
            self.assert_told(desk, asked, [wanted])
        desk = desk_by("a b\na b 3")
        self.assert_told(desk, "side 1 6/2", ["same"])
        self.assert_told(desk, "side 1 9/3", ["same"])
        self.assert_told(desk, "side 0 -3/1", ["same"])
        self.assert_told(desk, "side 0 3", ["less"])

    def test_closed(self):
        for web, desk in self.desks():
            for many in (0, 1, 2, 3, 10, 39, 40):
                self.assert_told(desk, f"closed {many}", [str(closed_walks(web, many))])
        desk = desk_by("a b\na b 3")
        for many in range(41):
            self.assert_told(desk, f"closed {many}", [str(3**many + (-3)**many)])

    def test_trees(self):
        refused = 0
        for web, desk in self.desks():
            if any(weight < 0 for row in web[1] for weight in row) or any(row[at] for at, row in enumerate(web[1])):
                refused += 1
                self.assert_refused(desk, NoAsk, "trees")
            else:
                self.assert_told(desk, "trees", [str(trees_by_going(web))])
        self.assertGreater(refused, 5)
        self.assert_told(desk_by("a b c d\na b\na c\na d\nb c\nb d\nc d"), "trees", ["16"])
        self.assert_told(desk_by("a b c\na b 5"), "trees", ["0"])
        self.assert_refused(desk_by("a b\na b 5\nb b 1"), NoAsk, "trees")
        self.assert_refused(desk_by("a b\na b -5"), NoAsk, "trees")
        self.assert_refused(desk_by("m\nm m -7"), NoAsk, "trees")

    def test_balance(self):
        for web, desk in self.desks():
            told = desk.ask("balance")
            self.assertTrue(is_texts(told) and len(told) == 1, told)
            word, *names = told[0].split(" ")
            self.assertEqual((word, tuple(names)), balance(web))
            self.assertIs(balance_shown(web, (word, tuple(names))), True)
        self.assert_told(desk_by("p q r s\np q\nr s -2"), "balance", ["balanced p q r"])
        self.assert_told(desk_by("m\nm m -7"), "balance", ["odd m m"])

    def test_parts(self):
        for web, desk in self.desks():
            self.assert_told(desk, "parts", [" ".join(part) for part in coarsest_even(web, (web[0],))])
        self.assert_told(desk_by("a b c d\na b\nb c\nc d"), "parts", ["a d", "b c"])
        self.assert_told(desk_by("x y z\nx x 2\ny y 2\nz z 2"), "parts", ["x y z"])


def tones_by_hand(web):
    """The lines of the tones, told by Sturm's rows at whole numbers and by multiplicities."""
    polynomial = poly_of(web[1])
    chain = sturm_chain(lone_part(polynomial))
    bound = 1 + max(sum(abs(weight) for weight in row) for row in web[1])
    ranks, _ = sturm_ranks(polynomial, line(10**9))
    times = [ranks.count(rank) for rank in sorted(set(ranks))]
    lines = []
    for whole in range(-bound, bound + 1):
        between = turns_at(chain, Fraction(whole - 1)) - turns_at(chain, Fraction(whole))
        is_root = value(polynomial, Fraction(whole)) == 0
        for _ in range(between - is_root):
            lines.append(f"{whole - 1} {whole} {times[len(lines)]}")
        if is_root:
            lines.append(f"{whole} {times[len(lines)]}")
    return lines


OTHER_LINES = (
    "", " ", "  ", "\n", "webs", "we", "Web", "WEB", "web ", " web", "web\n", "\nweb", "web web", "web a", "web  ", "w e b", "poly 1",
    "poly ", "Poly", "tones 0", " tones", "tones\n", "trees a", "TREES", "trees ", "balance a", "balance ", "parts a", "parts\n", "part",
    "place", "place ", "place  b", "place b ", " place b", "place b c", "place B", "place b1", "place b\n", "place abcdefghi", "place 1",
    "place -", "Place b", "place\nb", "place b\nplace c", "place .", "PLACE b",
    "leave", "leave ", "leave  b", "leave b ", "leave B", "leave 1", "leave a b", "leave abcdefghi", "leave b\n", "Leave b",
    "tie", "tie a", "tie a b", "tie a b ", "tie a b  1", "tie a  b 1", "tie  a b 1", " tie a b 1", "tie a b 1 ", "tie a b 1 1", "tie a b 01",
    "tie a b -0", "tie a b +1", "tie a b -", "tie a b +", "tie a b 00", "tie a b -01", "tie a b 1.0", "tie a b 1/1", "tie a b x", "tie a b --1",
    "tie a b 1-", "tie a b 1\n", "tie a B 1", "tie A b 1", "tie a 1 b", "tie a b 100", "tie a b -100", "tie a b 1_0", "tie a abcdefghi 1", "Tie a b 1",
    "tie a b 1\ntie a b 2",
    "side", "side 0", "side 0 ", "side 0  1", "side  0 1", "side 0 1 ", "side 0 1 2", "side 00 1", "side -0 1", "side +0 1", "side - 1", "side x 1",
    "side 0.0 1", "side 0 x", "side 0 1/0", "side 0 1/-1", "side 0 1/-2", "side 0 0/0", "side 0 1/", "side 0 /1", "side 0 /", "side 0 1//2",
    "side 0 1/2/3", "side 0 1 /2", "side 0 1/ 2", "side 0 1 / 2", "side 0 01/2", "side 0 1/02", "side 0 -0", "side 0 -0/1", "side 0 +1/2", "side 0 1/+2",
    "side 0 -/2", "side 0 1/2\n", "side 1/1 1", "side 0 --1", "side 0 0.5", "Side 0 1", "side a 1",
    "closed", "closed ", "closed  1", "closed 1 ", "closed 1 1", "closed 41", "closed -1", "closed -0", "closed +1", "closed 01", "closed 00", "closed x",
    "closed 1/1", "closed 100000000000000000000000", "closed 1\n", "closed -", "Closed 1", "closed -41", "close 1",
    "help", "quit", "name", "a", "b", "0", "a b", "a b\na b 1",
)


class OtherLines(Case):
    def test_each(self):
        for text in ("a b\na b 3", "a b c d e f g h\na b", "b c a\nb c -1\na a 2"):
            desk = desk_by(text)
            for asked in OTHER_LINES:
                self.assert_refused(desk, NoAsk, asked)

    def test_at_first(self):
        desk = Desk()
        for asked in OTHER_LINES:
            self.assert_refused(desk, NoAsk, asked)
        self.assert_told(desk, "web", ["a"])


class WhichIsFirst(Case):
    def test_no_ask_ahead_of_no_name(self):
        desk = desk_of("place b")
        for asked in (
            "tie z a 100", "tie z a x", "tie z y -0", "tie z A 1", "tie A z 1", "tie z a", "leave Z", "tie z a 01", "tie a z -100",
        ):
            self.assert_refused(desk, NoAsk, asked)

    def test_no_ask_ahead_of_no_root(self):
        desk = Desk()
        for asked in ("side 5 1/0", "side -1 x", "side 5 1/-2", "side 5 01", "side -5 1 2", "side 99 -0"):
            self.assert_refused(desk, NoAsk, asked)
        self.assert_refused(desk, NoRoot, "side 5 1/2")
        self.assert_refused(desk, NoRoot, "side -1 0")

    def test_one_place_alone_ahead_of_no_name(self):
        self.assert_refused(Desk(), NoAsk, "leave z")

    def test_a_ninth_place_and_a_name_that_is_there(self):
        desk = desk_by("a b c d e f g h\na b")
        for asked in ("place z", "place h", "place H"):
            self.assert_refused(desk, NoAsk, asked)

    def test_first_of_two_names(self):
        desk = desk_of("place b")
        self.assertEqual(self.assert_refused(desk, NoName, "tie y z 99").word, "y")
        self.assertEqual(self.assert_refused(desk, NoName, "tie a z -99").word, "z")


class Apart(Case):
    def test_two_desks_do_not_know_of_one_another(self):
        one, other = Desk(), Desk()
        one.ask("place b")
        one.ask("tie a b 5")
        self.assert_told(other, "web", ["a"])
        other.ask("tie a a 1")
        self.assert_told(one, "web", ["a b", "a b 5"])
        self.assert_told(other, "web", ["a", "a a 1"])
        self.assert_told(Desk(), "web", ["a"])

    def test_a_told_list_that_is_changed_changes_nothing(self):
        desk = desk_by("a b c\na b\nb c")
        lines = QUESTIONS + ("closed 4", "side 1 1/2")
        kept = [copy.copy(desk.ask(asked)) for asked in lines]
        for asked in lines:
            told = desk.ask(asked)
            told.clear()
            told.append("other")
        self.assertEqual([desk.ask(asked) for asked in lines], kept)
        told = desk.ask("tie a b 1")
        told.append("other")
        self.assert_told(desk, "tie a b 1", [])

    def test_what_was_told_stays(self):
        desk = desk_by("a b c\na b\nb c")
        told = [desk.ask(asked) for asked in QUESTIONS]
        kept = copy.deepcopy(told)
        for asked in ("tie a c 7", "leave b", "place d", "tie a a -1"):
            desk.ask(asked)
            asked_all(desk)
        self.assertEqual(told, kept)

    def test_asked_again_with_other_questions_between(self):
        desk = desk_by("a b c d e f g h\na b 99\nb c -99\nc d 98\nd e 97\ne f 1\nf g -1\ng h 50\na h -99\nb b 99")
        first = asked_all(desk)
        for asked in ("closed 40", "side 7 1/3", "tones"):
            self.assertTrue(is_texts(desk.ask(asked)))
        with self.assertRaises(NoName):
            desk.ask("leave z")
        self.assertEqual(asked_all(desk), first)
        self.assertTrue(is_whole(int(desk.ask("closed 40")[0])))


class Greatest(Case):
    def test_eight_places_with_weights_to_99(self):
        chance = random.Random(142)
        for _ in range(3):
            lines = ["a b c d e f g h"]
            for one, other in itertools.combinations_with_replacement("abcdefgh", 2):
                lines.append(f"{one} {other} {chance.choice([-99, 99, chance.randint(1, 99)])}")
            web, desk = read_web("\n".join(lines)), desk_by("\n".join(lines))
            self.assert_told(desk, "web", lines)
            self.assert_told(desk, "tones", tones_by_hand(web))
            self.assert_told(desk, "closed 40", [str(closed_walks(web, 40))])
            self.assert_told(desk, "side 7 999999999999/7", ["less"])

    def test_fractions_as_long_as_a_line(self):
        desk = desk_by("a b\na b 3")
        self.assert_told(desk, "side 1 " + "9" * 1900, ["less"])
        self.assert_told(desk, "side 1 -" + "9" * 1900, ["greater"])
        self.assert_told(desk, "side 1 3" + "0" * 900 + "/1" + "0" * 900, ["same"])
        self.assert_told(desk, "side 1 3" + "0" * 899 + "1/1" + "0" * 900, ["less"])


if __name__ == "__main__":
    unittest.main()
