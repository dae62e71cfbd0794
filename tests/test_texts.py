"""[2] and [4]: webs, as they are written and read."""

import copy
import itertools
import unittest

from tests.helpers import some_webs, web_of
from webtones.errors import NoAsk, NoName, NoParting, NoRoot, NoWeb, ToneError
from webtones.webs.texts import read_web, web_shown
from webtones.webs.words import is_name, whole_in


class Case(unittest.TestCase):
    def assert_wrong(self, text, row):
        with self.subTest(text=text):
            with self.assertRaises(NoWeb) as caught:
                read_web(text)
            self.assertEqual(caught.exception.row, row)
            self.assertNotIsInstance(caught.exception.row, bool)


class Shown(Case):
    def test_one_place(self):
        self.assertEqual(web_shown((("a",), ((0,),))), "a")
        self.assertEqual(web_shown((("a",), ((1,),))), "a\na a 1")
        self.assertEqual(web_shown((("abcdefgh",), ((-99,),))), "abcdefgh\nabcdefgh abcdefgh -99")

    def test_rows_by_the_webs_order_not_the_letters(self):
        web = web_of(("c", "a", "b"), {(0, 1): 1, (1, 2): -2, (0, 2): 99, (1, 1): 3, (2, 2): -1})
        self.assertEqual(web_shown(web), "c a b\nc a 1\nc b 99\na a 3\na b -2\nb b -1")

    def test_no_ties(self):
        self.assertEqual(web_shown(web_of(("b", "a", "ab"), {})), "b a ab")

    def test_eight_places(self):
        names = tuple("hgfedcba")
        web = web_of(names, {two: 1 for two in itertools.combinations(range(8), 2)})
        rows = [f"{names[one]} {names[other]} 1" for one in range(8) for other in range(one + 1, 8)]
        self.assertEqual(web_shown(web), "\n".join(["h g f e d c b a"] + rows))


class Read(Case):
    def test_what_is_shown_is_that_web_again(self):
        for web in some_webs():
            with self.subTest(web=web):
                self.assertEqual(read_web(web_shown(web)), web)

    def test_every_weight(self):
        for weight in range(-99, 100):
            web = web_of(("a", "b"), {(0, 1): weight, (1, 1): weight})
            self.assertEqual(read_web(web_shown(web)), web)

    def test_kinds(self):
        web = read_web("a b\na b\nb b -3")
        self.assertIs(type(web), tuple)
        self.assertEqual(len(web), 2)
        names, table = web
        self.assertIs(type(names), tuple)
        self.assertIs(type(table), tuple)
        for row in table:
            self.assertIs(type(row), tuple)
            for weight in row:
                self.assertIs(type(weight), int)
        self.assertEqual(web, (("a", "b"), ((0, 1), (1, -3))))

    def test_names_alone(self):
        self.assertEqual(read_web("a"), (("a",), ((0,),)))
        self.assertEqual(read_web("b a"), (("b", "a"), ((0, 0), (0, 0))))

    def test_rows_in_any_order(self):
        rows = ["c a 1", "c b -5", "a a 7", "b a 12"]
        web = web_of(("c", "a", "b"), {(0, 1): 1, (0, 2): -5, (1, 1): 7, (1, 2): 12})
        for order in itertools.permutations(rows):
            self.assertEqual(read_web("\n".join(["c a b", *order])), web)

    def test_names_of_a_row_in_either_order(self):
        web = web_of(("c", "a"), {(0, 1): -5})
        self.assertEqual(read_web("c a\nc a -5"), web)
        self.assertEqual(read_web("c a\na c -5"), web)

    def test_a_weight_of_1_left_out(self):
        web = web_of(("a", "b"), {(0, 1): 1, (0, 0): 1})
        for text in ("a b\na b\na a", "a b\na b 1\na a", "a b\nb a\na a 1", "a b\na a 1\nb a 1"):
            self.assertEqual(read_web(text), web)

    def test_names_alike_but_for_a_sign_or_the_begin_of_another(self):
        web = read_web("abcdefgh abcdefgi abcdefg\nabcdefg abcdefgi 2\nabcdefgh abcdefgi 3")
        self.assertEqual(web, web_of(("abcdefgh", "abcdefgi", "abcdefg"), {(1, 2): 2, (0, 1): 3}))

    def test_each_sign_of_a_name(self):
        for letter in "abcdefghijklmnopqrstuvwxyz":
            self.assertEqual(read_web(letter), ((letter,), ((0,),)))
            self.assertIs(is_name("a" + letter + "a"), True)

    def test_somewhat_beyond_the_limits(self):
        names = tuple("abcdefghij")
        self.assertEqual(read_web("a b c d e f g h i j\na j 1000"), web_of(names, {(0, 9): 1000}))


class WrongFirstRow(Case):
    def test_no_signs_at_all(self):
        self.assert_wrong("", 0)

    def test_empty_first_row(self):
        self.assert_wrong("\n", 0)
        self.assert_wrong("\na b", 0)

    def test_blanks(self):
        for text in (" ", " a", "a ", "a  b", " a b", "a b ", "a b\t", "\ta b", "a\tb"):
            self.assert_wrong(text, 0)
            self.assert_wrong(text + "\na b", 0)

    def test_what_is_no_name(self):
        for word in ("A", "aB", "a1", "1", "7a", "a_b", "a-b", "-", "a.", "~", "abcdefghi", "a\r", "ABCDEFGH"):
            self.assert_wrong(word, 0)
            self.assert_wrong("a " + word, 0)
            self.assert_wrong(word + " b\nb b", 0)

    def test_each_sign_that_is_no_letter(self):
        for sign in map(chr, range(32, 127)):
            if not "a" <= sign <= "z":
                self.assert_wrong("a" + sign, 0)
                self.assert_wrong(sign + "a", 0)

    def test_a_name_twice(self):
        for text in ("a a", "a b a", "b ab ab", "a b b c\na b"):
            self.assert_wrong(text, 0)


class WrongTies(Case):
    def test_empty_rows(self):
        self.assert_wrong("a\n", 1)
        self.assert_wrong("a b\na b 1\n", 2)
        self.assert_wrong("a b\n\na b 1", 1)
        self.assert_wrong("a b\na b 1\n\nb b", 2)
        self.assert_wrong("a b\na b\n\n", 2)

    def test_blanks(self):
        for row in (" ", "  ", " a b", "a b ", "a  b", " a b 2", "a b 2 ", "a  b 2", "a b  2", "a ", " a", "a b\t2"):
            self.assert_wrong("a b\n" + row, 1)
            self.assert_wrong("a b\na a 1\n" + row + "\nb b", 2)

    def test_names_that_the_first_row_has_not(self):
        for row in ("a c", "c a", "c c", "a c 2", "c b 2", "a A", "A b", "a abcdefghi", "a 1", "1 2", "a bb", "a aa 1"):
            self.assert_wrong("a b\n" + row, 1)
            self.assert_wrong("a b\na b\n" + row, 2)

    def test_rows_of_one_word_or_of_four(self):
        for row in ("a", "b", "2", "a b 2 3", "a b a b", "a b 1 a", "a b 1 2 3"):
            self.assert_wrong("a b\n" + row, 1)

    def test_two_names_tied_twice(self):
        self.assert_wrong("a b\na b 1\na b 1", 2)
        self.assert_wrong("a b\na b\nb a", 2)
        self.assert_wrong("a b\nb a 3\na a\na b -3", 3)
        self.assert_wrong("a b\na a\na a 2", 2)
        self.assert_wrong("a b c\na b\nb c\na c\nb b\nc b 7\nb a", 5)

    def test_weights(self):
        words = (
            "0", "00", "01", "007", "-0", "-01", "-00", "-", "--1", "+", "+1", "+0", "-+1", "1-", "1.0", "1e1",
            "0x1", "1_0", "1,0", "a", "b", "x", "one", "1a", "a1", "1/1", "~", "''", "(1)",
        )
        for word in words:
            self.assert_wrong("a b\na b " + word, 1)
            self.assert_wrong("a b\na a " + word, 1)

    def test_the_first_of_several_wrong_rows(self):
        self.assert_wrong("a A\na c\na b 0", 0)
        self.assert_wrong("a b\na b\na b 0\na c\n", 2)
        self.assert_wrong("a b\na c\na b\na b", 1)
        self.assert_wrong("a b\na b\na b\na b\na c", 2)
        self.assert_wrong("a b\na b 01\nb a +2\n", 1)
        self.assert_wrong("a a\n", 0)


class Refused(Case):
    def test_caught_as_tone_error_and_as_value_error_only(self):
        for caught in (NoWeb, ToneError, ValueError):
            with self.assertRaises(caught):
                read_web("a\nb")
        try:
            read_web("a\nb")
        except (NoRoot, NoParting, NoAsk, NoName):
            self.fail("caught as another refusal")
        except NoWeb as refusal:
            self.assertEqual(refusal.row, 1)


class Words(Case):
    def test_names(self):
        for word in ("a", "z", "abcdefgh", "zzzzzzzz"):
            self.assertIs(is_name(word), True)
        for word in ("", "abcdefghi", "A", "a b", "a1", "a\n", "`", "{"):
            self.assertIs(is_name(word), False)

    def test_wholes(self):
        for number in (*range(-120, 121), 10**30, -(10**30)):
            self.assertEqual(whole_in(str(number)), number)
        for word in ("", "-", "-0", "00", "01", "-01", "+1", " 1", "1 ", "1\n", "a", "1.", "/", ":"):
            self.assertIs(whole_in(word), None)


class Asked(Case):
    def test_arguments_by_their_names(self):
        web = (("a", "b"), ((0, 2), (2, 0)))
        self.assertEqual(web_shown(web=web), "a b\na b 2")
        self.assertEqual(read_web(text="a b\nb a 2"), web)
        with self.assertRaises(NoWeb):
            read_web(text="")

    def test_the_same_asked_again_with_others_between(self):
        webs = list(some_webs())
        texts = [web_shown(web) for web in webs]
        kept = copy.deepcopy(webs)
        self.assert_wrong("a b\na b\nb a", 2)
        told = [read_web(text) for text in reversed(texts)]
        self.assertEqual([read_web(text) for text in texts], told[::-1])
        self.assert_wrong("a b\na b\nb a", 2)
        self.assertEqual([web_shown(web) for web in webs], texts)
        self.assertEqual(webs, kept)


if __name__ == "__main__":
    unittest.main()
