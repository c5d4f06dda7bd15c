"""Promise 8: texts of forests."""

import unittest

from graftbook.errors import InvalidForest, InvalidText
from graftbook.foresttext import forest_text, read_forest
from tests.samples import FULL, FULL_TEXTS, LONG_WORD, NOTHINGS, random_pairs, shapes

NINE_DEEP = "a(" * 8 + "a" + ")" * 8

WRONG = {
    ",": 0, "(": 0, ")": 0, "A": 0, " ": 0, "1": 0, "\u00e9": 0, " a": 0,
    "a ": 1, "a b": 1, "aB": 1, "a)": 1, "a1": 1, "a\n": 1, "a.": 1,
    "a,": 2, "a(": 2, "a()": 2, "a,,b": 2, "a(,b)": 2, "a((b))": 2, "a,)": 2, "a,(b)": 2,
    "a(b": 3, "a(b,": 4, "a(b,c": 5, "a(b(c)": 6, "a(b))": 4, "a(b)c": 4, "a(b)(c)": 4, "a(b),": 5,
    "a(b,)": 4, "a,b(c),d(": 9, "a,b)": 3,
    "abcdefghi": 8, "a(abcdefghi)": 10, "abcdefgh1": 8, "a,abcdefghijkl": 10,
    "a(" * 9: 17, "a(" * 8: 16, "a(" * 9 + "a" + ")" * 9: 17, "b," + "a(" * 9: 19,
    "a(" * 8 + "a" + ")" * 7: 24, "a(" * 8 + "a" + ")" * 9: 25,
}


class Texts(unittest.TestCase):
    def test_ordinary(self):
        forest = (("a", (("b", ()), ("c", (("d", ()),)))), ("e", ()))
        self.assertEqual(forest_text(forest), "a(b,c(d)),e")
        self.assertEqual(read_forest("a(b,c(d)),e"), forest)

    def test_empty(self):
        self.assertEqual(forest_text(()), "")
        self.assertEqual(read_forest(""), ())

    def test_words_of_one_and_of_eight_letters(self):
        self.assertEqual(read_forest("z," + LONG_WORD), (("z", ()), (LONG_WORD, ())))
        self.assertEqual(forest_text(((LONG_WORD, ((LONG_WORD, ()),)),)), "abcdefgh(abcdefgh)")

    def test_back_and_forth(self):
        for text, forest in zip(FULL_TEXTS, FULL):
            self.assertEqual(forest_text(forest), text)
        for size in range(6):
            for forest in shapes(size):
                self.assertEqual(read_forest(forest_text(forest)), forest)
        for pair in random_pairs(2, 100, 12):
            for forest in pair:
                self.assertEqual(read_forest(forest_text(forest)), forest)

    def test_eight_open(self):
        self.assertEqual(forest_text(read_forest(NINE_DEEP)), NINE_DEEP)
        twice = NINE_DEEP + "," + NINE_DEEP
        self.assertEqual(forest_text(read_forest(twice)), twice)

    def test_sizes_do_not_matter(self):
        text = ",".join(["abc"] * 50)
        self.assertEqual(len(read_forest(text)), 50)

    def test_wrong_texts(self):
        for text, at in WRONG.items():
            with self.assertRaises(InvalidText) as caught:
                read_forest(text)
            self.assertEqual((caught.exception.text, caught.exception.at), (text, at))

    def test_at_is_where_no_text_goes_on(self):
        alphabet = "a(),"
        texts = [""]
        for _ in range(5):
            texts = [text + sign for text in texts for sign in alphabet]
        # With words of one letter, what can be read within nine more signs tells
        # with what a text may begin.
        for text in texts:
            try:
                self.assertEqual(forest_text(read_forest(text)), text)
            except InvalidText as wrong:
                self.assertTrue(can_go_on(text[:wrong.at]), text)
                if wrong.at < len(text):
                    self.assertFalse(can_go_on(text[:wrong.at + 1]), text)

    def test_what_is_no_string(self):
        for value in (None, True, 5, (), [], ("a",), ["a"]):
            with self.assertRaises(InvalidText) as caught:
                read_forest(value)
            self.assertIs(caught.exception.text, value)
            self.assertEqual(caught.exception.at, 0)

    def test_forest_text_of_what_is_none(self):
        for value in NOTHINGS:
            with self.assertRaises(InvalidForest) as caught:
                forest_text(value)
            self.assertIs(caught.exception.value, value)


def can_go_on(text):
    """Whether a text becomes one that can be read by a letter or none, and closing brackets."""
    for letter in ("", "a"):
        for closing in range(6):
            try:
                read_forest(text + letter + ")" * closing)
                return True
            except InvalidText:
                pass
    return False
