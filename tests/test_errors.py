"""The interface, webtones/errors.py: the refusals."""

import unittest

from webtones.errors import NoAsk, NoName, NoParting, NoRoot, NoWeb, ToneError

MADE_OF_A_TEXT = (NoRoot, NoParting, NoAsk)
REFUSALS = MADE_OF_A_TEXT + (NoWeb, NoName)


class Refusals(unittest.TestCase):
    def test_tone_error_is_a_value_error(self):
        self.assertEqual(ToneError.__bases__, (ValueError,))

    def test_each_stands_under_tone_error(self):
        for refusal in REFUSALS:
            with self.subTest(refusal=refusal):
                self.assertTrue(issubclass(refusal, ToneError))

    def test_none_stands_under_another_one(self):
        for refusal in REFUSALS:
            for other in REFUSALS:
                if refusal != other:
                    with self.subTest(refusal=refusal, other=other):
                        self.assertFalse(issubclass(refusal, other))

    def test_made_of_a_text(self):
        for refusal in MADE_OF_A_TEXT:
            with self.subTest(refusal=refusal):
                self.assertEqual(str(refusal("so it is not")), "so it is not")

    def test_each_is_caught_as_tone_error_and_as_value_error(self):
        for refusal, made_of in ((NoRoot, "why"), (NoParting, "why"), (NoAsk, "why"), (NoWeb, 2), (NoName, "b")):
            for caught in (refusal, ToneError, ValueError):
                with self.subTest(refusal=refusal, caught=caught):
                    with self.assertRaises(caught):
                        raise refusal(made_of)

    def test_no_web_made_by_hand_keeps_its_row(self):
        self.assertEqual(NoWeb(0).row, 0)
        self.assertEqual(NoWeb(7).row, 7)
        self.assertEqual(NoWeb(row=3).row, 3)

    def test_no_name_made_by_hand_keeps_its_word(self):
        self.assertEqual(NoName("abc").word, "abc")
        self.assertEqual(NoName("").word, "")
        self.assertEqual(NoName(word="No Name").word, "No Name")

    def test_each_object_keeps_its_own(self):
        one, other = NoWeb(1), NoWeb(2)
        self.assertEqual((one.row, other.row), (1, 2))
        one, other = NoName("a"), NoName("b")
        self.assertEqual((one.word, other.word), ("a", "b"))


if __name__ == "__main__":
    unittest.main()
