"""Promise 12: matchings of forests."""

import unittest
from itertools import product

from graftbook.errors import InvalidForest, InvalidMatching, InvalidPrices
from graftbook.foresttext import read_forest
from graftbook.matchings import all_matchings, is_matching, matching_joined, matching_price, matching_turned
from tests.samples import (ALL_PRICES, EVEN, FULL, HUGE, NOTHINGS, SKEW, random_pairs, shapes, slow_is_matching,
                           slow_matchings, slow_price, slow_words, spoilt)

TREE = read_forest("a(b,c(d))")
OTHER = read_forest("a(b,d)")
GOOD = ((0, 0), (1, 1), (3, 2))
NO_MATCHINGS = (
    ((0, 1), (1, 0)), ((0, 0), (0, 1)), ((0, 0), (1, 0)), ((1, 1), (0, 0)), ((0, 3),), ((4, 0),), ((-1, 0),),
    ((0, -1),), ((1, 0), (2, 1)), ((0, 1), (1, 2)), ((2, 1), (3, 2)), ((0, 0, 0),), ((0,),), ((),), (0, 0),
    ([0, 0],), [(0, 0)], [], ((False, 0),), ((0, False),), (("0", 0),), ((0, None),), ((HUGE, 0),),
    ((0, -HUGE),), None, True, 0, "",
)


class IsMatching(unittest.TestCase):
    def test_ordinary(self):
        for value in ((), GOOD, ((0, 0),), ((3, 0),), ((1, 1), (2, 2)), ((1, 1), (3, 2)), ((2, 0), (3, 1))):
            self.assertIs(is_matching(value, TREE, OTHER), True, value)

    def test_other_values(self):
        for value in NO_MATCHINGS:
            self.assertIs(is_matching(value, TREE, OTHER), False, value)
        for value in NOTHINGS:
            self.assertIs(is_matching(value, TREE, OTHER), False)
        for value in spoilt(GOOD):
            self.assertIs(is_matching(value, TREE, OTHER), False, value)
        self.assertIs(is_matching((), (), ()), True)
        self.assertIs(is_matching(((0, 0),), (), ()), False)

    def test_by_definition(self):
        forests = [a for size in range(4) for a in shapes(size)]
        for a, b in product(forests, forests):
            pairs = list(product(range(len(slow_words(a))), range(len(slow_words(b)))))
            for many in range(3):
                for value in product(pairs, repeat=many):
                    self.assertIs(is_matching(value, a, b), slow_is_matching(value, a, b))

    def test_full_size(self):
        for a in FULL:
            same = tuple((k, k) for k in range(12))
            for b in FULL:
                self.assertIs(is_matching(same, a, b), a == b or slow_is_matching(same, a, b))

    def test_errors(self):
        for value in NOTHINGS:
            for a, b, wrong in ((value, TREE, 0), (TREE, value, 1), (value, None, 0)):
                with self.assertRaises(InvalidForest) as caught:
                    is_matching(None, a, b)
                self.assertIs(caught.exception.value, (a, b)[wrong])


class MatchingPrice(unittest.TestCase):
    def test_ordinary(self):
        self.assertEqual(matching_price(TREE, OTHER, EVEN, GOOD), 1)
        self.assertEqual(matching_price(TREE, OTHER, EVEN, ()), 7)
        self.assertEqual(matching_price(TREE, OTHER, SKEW, ((0, 1),)), 3 * 2 + 2 * 3 + 1)
        self.assertEqual(matching_price((), (), EVEN, ()), 0)

    def test_by_definition(self):
        for k, (a, b) in enumerate(random_pairs(8, 40, 4)):
            prices = ALL_PRICES[k % 4]
            for m in all_matchings(a, b):
                price = slow_price(slow_words(a), slow_words(b), prices, m)
                self.assertEqual(matching_price(a, b, prices, m), price)

    def test_errors_in_order(self):
        for value in NOTHINGS:
            for args, error, wrong in (
                    ((value, None, None, None), InvalidForest, 0), ((TREE, value, None, None), InvalidForest, 1),
                    ((TREE, OTHER, value, None), InvalidPrices, 2),
                    ((TREE, OTHER, EVEN, value), InvalidMatching, 3)):
                with self.assertRaises(error) as caught:
                    matching_price(*args)
                self.assertIs(caught.exception.value, args[wrong])
        for value in NO_MATCHINGS:
            with self.assertRaises(InvalidMatching) as caught:
                matching_price(TREE, OTHER, EVEN, value)
            self.assertIs(caught.exception.value, value)


class AllMatchings(unittest.TestCase):
    def test_ordinary(self):
        self.assertEqual(all_matchings((), ()), ((),))
        self.assertEqual(all_matchings(TREE, ()), ((),))
        two = read_forest("a,b")
        self.assertEqual(all_matchings(two, two), (
            (), ((0, 0),), ((0, 0), (1, 1)), ((0, 1),), ((1, 0),), ((1, 1),)))
        self.assertEqual(all_matchings(two, read_forest("a(b)")), (
            (), ((0, 0),), ((0, 1),), ((1, 0),), ((1, 1),)))

    def test_by_definition(self):
        forests = [a for size in range(4) for a in shapes(size)]
        for a, b in product(forests, forests):
            self.assertEqual(list(all_matchings(a, b)), slow_matchings(a, b))

    def test_five_nodes(self):
        for a, b in product(list(shapes(5))[::5], list(shapes(5))[::7]):
            found = all_matchings(a, b)
            self.assertEqual(list(found), sorted(set(found)))
            self.assertTrue(all(is_matching(m, a, b) for m in found))
        row = read_forest("a,b,c,d,e")
        chain = read_forest("a(b(c(d(e))))")
        self.assertEqual(len(all_matchings(row, row)), 252)
        self.assertEqual(len(all_matchings(chain, chain)), 252)
        self.assertEqual(len(all_matchings(row, chain)), 26)

    def test_errors(self):
        for value in NOTHINGS:
            for a, b, wrong in ((value, TREE, 0), (TREE, value, 1), (value, None, 0)):
                with self.assertRaises(InvalidForest) as caught:
                    all_matchings(a, b)
                self.assertIs(caught.exception.value, (a, b)[wrong])


class Turned(unittest.TestCase):
    def test_turned(self):
        self.assertEqual(matching_turned(()), ())
        self.assertEqual(matching_turned(GOOD), ((0, 0), (1, 1), (2, 3)))
        for a, b in random_pairs(9, 30, 4):
            turned = sorted(matching_turned(m) for m in all_matchings(a, b))
            self.assertEqual(turned, list(all_matchings(b, a)))

    def test_joined(self):
        self.assertEqual(matching_joined(GOOD, ((0, 4), (2, 5))), ((0, 4), (3, 5)))
        self.assertEqual(matching_joined((), GOOD), ())
        self.assertEqual(matching_joined(GOOD, ()), ())

    def test_joined_is_a_matching(self):
        triples = zip(random_pairs(10, 25, 3), random_pairs(11, 25, 3))
        for (a, b), (c, _) in triples:
            for m, other in product(all_matchings(a, b), all_matchings(b, c)):
                joined = matching_joined(m, other)
                self.assertTrue(is_matching(joined, a, c))
                self.assertEqual(set(joined), {(i, k) for i, j in m for h, k in other if h == j})
