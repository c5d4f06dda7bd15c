"""Promise 22: embeddings, and the greatest common forest."""

import math
import unittest
from itertools import product

from graftbook.embeddings import common_forest, common_size, count_embeddings, embedding_holds, embedding_of
from graftbook.errors import InvalidForest
from graftbook.forests import forest_below, forest_turned
from graftbook.foresttext import forest_text, read_forest
from graftbook.matchings import all_matchings
from tests.samples import (FULL, HUGE, NOTHINGS, random_pairs, relabelled, shapes, slow_matchings, slow_part,
                           slow_words, spoilt)

TREE = read_forest("a(b,c(d))")
PART = read_forest("a(b,d)")


def joins_equal_words(pairs, a, b):
    return all(slow_words(a)[i] == slow_words(b)[j] for i, j in pairs)


def slow_embeddings(a, b, matchings):
    size = len(slow_words(a))
    return [pairs for pairs in matchings if len(pairs) == size and joins_equal_words(pairs, a, b)]


class Embeddings(unittest.TestCase):
    def test_ordinary(self):
        self.assertEqual(embedding_of(PART, TREE), ((0, 0), (1, 1), (2, 3)))
        self.assertEqual(count_embeddings(PART, TREE), 1)
        self.assertIs(embedding_of(TREE, PART), None)
        self.assertEqual(count_embeddings(TREE, PART), 0)
        self.assertEqual(embedding_of(read_forest("b,d"), TREE), ((0, 1), (1, 3)))
        self.assertIs(embedding_of(read_forest("d,b"), TREE), None)
        self.assertIs(embedding_of(read_forest("a,d"), TREE), None)
        self.assertIs(embedding_of(read_forest("b(d)"), TREE), None)
        self.assertEqual(embedding_of(read_forest("a(d)"), TREE), ((0, 0), (1, 3)))

    def test_empty(self):
        for b in ((), TREE):
            self.assertEqual(embedding_of((), b), ())
            self.assertEqual(count_embeddings((), b), 1)
            self.assertIs(embedding_holds((), b, ()), True)
        self.assertIs(embedding_of(TREE, ()), None)
        self.assertEqual(count_embeddings(TREE, ()), 0)
        self.assertIs(embedding_holds(TREE, (), ()), False)

    def test_the_first_of_several(self):
        row = read_forest("a,a,a")
        self.assertEqual(embedding_of(read_forest("a,a"), row), ((0, 0), (1, 1)))
        self.assertEqual(count_embeddings(read_forest("a,a"), row), 3)
        self.assertEqual(embedding_of(read_forest("a(a)"), read_forest("a,a(b(a),a)")), ((0, 1), (1, 3)))
        # The first node may not go to the first place that has its word.
        self.assertEqual(embedding_of(read_forest("a(c)"), read_forest("a(b),a(c)")), ((0, 2), (1, 3)))

    def compare(self, a, b, matchings):
        right = slow_embeddings(a, b, matchings)
        self.assertEqual(embedding_of(a, b), right[0] if right else None)
        self.assertEqual(count_embeddings(a, b), len(right))
        for pairs in matchings:
            self.assertIs(embedding_holds(a, b, pairs), pairs in right)

    def test_small_shapes(self):
        forests = [a for size in range(4) for a in shapes(size)]
        for a, b in product(forests, forests):
            self.compare(a, b, slow_matchings(a, b))

    def test_random_words(self):
        found = 0
        for a, b in random_pairs(101, 200, 5):
            a = relabelled(a, ["a" if word == "c" else word for word in slow_words(a)])
            self.compare(a, b, all_matchings(a, b))
            found += count_embeddings(a, b) > 0
        self.assertGreater(found, 30)

    def test_parts_of_random_forests(self):
        for k, (a, b) in enumerate(random_pairs(102, 150, 12)):
            kept = [i for i in range(len(slow_words(b))) if (i * i + k) % 3]
            part = slow_part(b, kept)
            self.assertIs(embedding_holds(part, b, tuple(enumerate(kept))), True)
            self.assertLessEqual(embedding_of(part, b), tuple(enumerate(kept)))
            self.assertIs(embedding_holds(part, b, embedding_of(part, b)), True)
            self.assertEqual(count_embeddings(part, b), count_embeddings(forest_turned(part), forest_turned(b)))
            self.assertEqual(common_size(part, b), len(kept))
            self.assertEqual(embedding_of(a, b) is None, count_embeddings(a, b) == 0)

    def test_full_size(self):
        for a, b in product(FULL, FULL):
            self.assertEqual(count_embeddings(a, b), 1 if a == b else 0)
        row = read_forest(",".join("a" * 12))
        for many in range(13):
            self.assertEqual(count_embeddings(row[:many], row), math.comb(12, many))
        deep = read_forest("a(a(a(a(a(a(a(a,a,a,a,a)))))))")
        self.assertEqual(embedding_of(deep, deep), tuple((k, k) for k in range(12)))
        self.assertEqual(count_embeddings(read_forest("a(a,a)"), deep), 7 * math.comb(5, 2))

    def test_holds_for_no_other_value(self):
        good = ((0, 0), (1, 1), (2, 3))
        self.assertIs(embedding_holds(PART, TREE, good), True)
        for value in NOTHINGS + ((), good[:2], good + ((3, 4),), list(good), ((0, 0), (2, 3), (1, 1)),
                                 ((0, 0), (1, 1), (2, 2)), ((0, 0), (1, 3), (2, 1)), ((False, 0), (1, 1), (2, 3)),
                                 ((0, 0), (1, True), (2, 3)), ((0, 0), (1, 1), (2, HUGE)), ([0, 0], (1, 1), (2, 3))):
            self.assertIs(embedding_holds(PART, TREE, value), False, value)
        for value in spoilt(good):
            self.assertIs(embedding_holds(PART, TREE, value), False, value)
        self.assertIs(embedding_holds(TREE, PART, ((0, 0), (1, 1), (3, 2))), False)


class Common(unittest.TestCase):
    def test_ordinary(self):
        self.assertEqual(common_size(TREE, PART), 3)
        self.assertEqual(common_forest(TREE, PART), PART)
        self.assertEqual(common_size(TREE, read_forest("x(y)")), 0)
        self.assertEqual(common_forest(TREE, read_forest("x(y)")), ())
        self.assertEqual(common_size((), ()), 0)
        self.assertEqual(common_forest((), ()), ())
        self.assertEqual(common_forest(TREE, ()), ())
        self.assertEqual(common_forest((), TREE), ())

    def test_the_first_of_several(self):
        self.assertEqual(forest_text(common_forest(read_forest("b,a"), read_forest("a,b"))), "a")
        # Of one size and with the same words: by the parents.
        both = read_forest("a(a),a,a"), read_forest("a,a,a(a)")
        self.assertEqual(forest_text(common_forest(*both)), "a,a,a")
        self.assertEqual(forest_text(common_forest(read_forest("a(b),c(d)"), read_forest("c(d),a(b)"))), "a(b)")

    def compare(self, a, b, matchings):
        right = [pairs for pairs in matchings if joins_equal_words(pairs, a, b)]
        size = max(len(pairs) for pairs in right)
        self.assertEqual(common_size(a, b), size)
        self.assertEqual(common_size(b, a), size)
        parts = [slow_part(a, [i for i, _ in pairs]) for pairs in right if len(pairs) == size]
        found = common_forest(a, b)
        self.assertIn(found, parts)
        self.assertFalse(any(forest_below(part, found) for part in parts))
        self.assertEqual(common_forest(b, a), found)
        for c in (a, b):
            self.assertGreater(count_embeddings(found, c), 0)

    def test_small_shapes(self):
        forests = [a for size in range(4) for a in shapes(size)]
        for a, b in product(forests, forests):
            self.compare(a, b, slow_matchings(a, b))

    def test_random_words(self):
        for a, b in random_pairs(103, 200, 5):
            self.compare(a, b, all_matchings(a, b))

    def test_full_size(self):
        for a, b in product(FULL, FULL):
            found = common_size(a, b)
            self.assertEqual(found, common_size(b, a))
            if a == b:
                self.assertEqual(found, 12)
        same = ("a",) * 12
        self.assertEqual(common_size(relabelled(FULL[0], same), relabelled(FULL[1], same)), 5)

    def test_errors_in_order(self):
        calls = (embedding_of, count_embeddings, common_size, common_forest,
                 lambda a, b: embedding_holds(a, b, ()), lambda a, b: embedding_holds(a, b, None))
        for call in calls:
            for value in NOTHINGS:
                for a, b, wrong in ((value, None, 0), (TREE, value, 1)):
                    with self.assertRaises(InvalidForest) as caught:
                        call(a, b)
                    self.assertIs(caught.exception.value, (a, b)[wrong])
