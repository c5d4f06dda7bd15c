"""Promise 5: forests."""

import unittest

from graftbook.errors import InvalidForest
from graftbook.foresttext import forest_text, read_forest
from graftbook.forests import (forest_below, forest_depth, forest_joined, forest_size, forest_turned,
                               forest_words, is_forest, words_behind)
from tests.samples import FULL, LONG_WORD, NOTHINGS, nested, shapes, slow_words, spoilt

TREE = read_forest("a(b,c(d)),e")


class IsForest(unittest.TestCase):
    def test_forests(self):
        for value in ((), TREE, (("z", ()),), ((LONG_WORD, ()),)) + FULL:
            self.assertIs(is_forest(value), True)

    def test_sizes_do_not_matter(self):
        self.assertIs(is_forest((("a", ()),) * 40), True)
        deep = ()
        for _ in range(30):
            deep = (("a", deep),)
        self.assertIs(is_forest(deep), True)

    def test_other_values(self):
        for value in NOTHINGS:
            self.assertIs(is_forest(value), False, repr(value)[:80])
        for value in (nested(60), nested(60, "a"), nested(60, None)):
            self.assertIs(is_forest(value), False)

    def test_words_are_of_plain_letters(self):
        for word in ("", "A", "a b", "a1", "\u00e9", "\u0430", "abcdefghi", " a", "a\n"):
            self.assertIs(is_forest(((word, ()),)), False, word)

    def test_spoilt_anywhere(self):
        for forest in (TREE, FULL[1]):
            for value in spoilt(forest):
                self.assertIs(is_forest(value), False, value)


class OfOneForest(unittest.TestCase):
    def test_empty(self):
        self.assertEqual(forest_size(()), 0)
        self.assertEqual(forest_depth(()), 0)
        self.assertEqual(forest_words(()), ())
        self.assertEqual(words_behind(()), ())
        self.assertEqual(forest_turned(()), ())

    def test_ordinary(self):
        self.assertEqual(forest_size(TREE), 5)
        self.assertEqual(forest_depth(TREE), 3)
        self.assertEqual(forest_words(TREE), ("a", "b", "c", "d", "e"))
        self.assertEqual(words_behind(TREE), ("b", "d", "c", "a", "e"))
        self.assertEqual(forest_text(forest_turned(TREE)), "e,a(c(d),b)")

    def test_depth_is_of_the_deepest(self):
        self.assertEqual(forest_depth(read_forest("a,b(c(d)),e(f)")), 3)
        self.assertEqual(forest_depth(read_forest("a,b")), 1)

    def test_full_size(self):
        self.assertEqual([forest_size(a) for a in FULL], [12] * 5)
        self.assertEqual([forest_depth(a) for a in FULL], [1, 8, 4, 7, 5])
        for a in FULL:
            self.assertEqual(list(forest_words(a)), slow_words(a))
            self.assertEqual(forest_words(forest_turned(a)), tuple(reversed(words_behind(a))))
            self.assertEqual(forest_turned(forest_turned(a)), a)

    def test_errors(self):
        for function in (forest_size, forest_depth, forest_words, words_behind, forest_turned):
            for value in NOTHINGS:
                with self.assertRaises(InvalidForest) as caught:
                    function(value)
                self.assertIs(caught.exception.value, value)


class OfTwoForests(unittest.TestCase):
    def test_joined(self):
        self.assertEqual(forest_text(forest_joined(TREE, read_forest("x(y)"))), "a(b,c(d)),e,x(y)")
        self.assertEqual(forest_joined((), TREE), TREE)
        self.assertEqual(forest_joined(TREE, ()), TREE)
        self.assertEqual(forest_joined((), ()), ())

    def test_below_by_size_first(self):
        self.assertIs(forest_below(read_forest("z"), read_forest("a,a")), True)
        self.assertIs(forest_below(read_forest("a,a"), read_forest("z")), False)
        self.assertIs(forest_below((), read_forest("a")), True)
        self.assertIs(forest_below((), ()), False)

    def test_below_by_words_then(self):
        self.assertIs(forest_below(read_forest("a(b)"), read_forest("a,c")), True)
        self.assertIs(forest_below(read_forest("a(c)"), read_forest("a,b")), False)
        self.assertIs(forest_below(read_forest("a,b"), read_forest("aa,a")), True)

    def test_below_by_parents_last(self):
        self.assertIs(forest_below(read_forest("a,b"), read_forest("a(b)")), True)
        self.assertIs(forest_below(read_forest("a(b)"), read_forest("a,b")), False)
        self.assertIs(forest_below(read_forest("a(b,c)"), read_forest("a(b(c))")), True)
        self.assertIs(forest_below(TREE, TREE), False)

    def test_below_is_an_order(self):
        forests = [a for size in range(4) for a in shapes(size)]
        for a in forests:
            for b in forests:
                self.assertEqual(forest_below(a, b) or forest_below(b, a), a != b)

    def test_errors_from_the_left(self):
        for function in (forest_joined, forest_below):
            for value in NOTHINGS:
                for pair, wrong in (((value, TREE), 0), ((TREE, value), 1), ((value, None), 0)):
                    with self.assertRaises(InvalidForest) as caught:
                        function(*pair)
                    self.assertIs(caught.exception.value, pair[wrong])
