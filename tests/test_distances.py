"""Promise 13, with what holds of distances."""

import unittest
from itertools import product

from graftbook.distances import (first_matching, forest_distance, least_matching, matching_counts, open_pairs,
                                 sure_pairs)
from graftbook.errors import InvalidForest, InvalidPrices
from graftbook.forests import forest_joined, forest_turned
from graftbook.foresttext import read_forest
from graftbook.matchings import all_matchings, is_matching, matching_joined, matching_price, matching_turned
from graftbook.prices import is_chained, prices_turned
from graftbook.rows import row_distance
from tests.samples import (ALL_PRICES, DEAR, EVEN, FREE, FULL, NOTHINGS, SKEW, random_pairs, random_prices, shapes,
                           slow_matchings, slow_price, slow_words)
from tests.test_rows import random_rows

TREE = read_forest("a(b,c(d))")
OTHER = read_forest("a(b,d)")
FUNCTIONS = (forest_distance, least_matching, first_matching, matching_counts, sure_pairs, open_pairs)


def of_singles(words):
    return tuple((word, ()) for word in words)


class Ordinary(unittest.TestCase):
    def test_a_dropped_node(self):
        self.assertEqual(forest_distance(TREE, OTHER, EVEN), 1)
        self.assertEqual(least_matching(TREE, OTHER, EVEN), ((0, 0), (1, 1), (3, 2)))
        self.assertEqual(first_matching(TREE, OTHER, EVEN), ((0, 0), (1, 1), (3, 2)))
        self.assertEqual(sure_pairs(TREE, OTHER, EVEN), ((0, 0), (1, 1), (3, 2)))
        self.assertEqual(open_pairs(TREE, OTHER, EVEN), ())

    def test_several_of_one_price(self):
        a = read_forest("a(a)")
        b = read_forest("a")
        self.assertEqual(first_matching(a, b, EVEN), ((0, 0),))
        self.assertEqual(matching_counts(a, b, EVEN), ((1, 2), (3, 1)))
        self.assertEqual(sure_pairs(a, b, EVEN), ())
        self.assertEqual(open_pairs(a, b, EVEN), ((0, 0), (1, 0)))

    def test_empty(self):
        for prices in ALL_PRICES:
            self.assertEqual(forest_distance((), (), prices), 0)
            self.assertEqual(forest_distance(TREE, (), prices), 4 * prices[0])
            self.assertEqual(forest_distance((), TREE, prices), 4 * prices[1])
            for a, b in (((), ()), (TREE, ()), ((), TREE)):
                self.assertEqual(least_matching(a, b, prices), ())
                self.assertEqual(first_matching(a, b, prices), ())
                self.assertEqual(sure_pairs(a, b, prices), ())
                self.assertEqual(open_pairs(a, b, prices), ())
        self.assertEqual(matching_counts((), (), EVEN), ((0, 1),))

    def test_free_prices(self):
        self.assertEqual(first_matching(TREE, OTHER, FREE), ())
        self.assertEqual(matching_counts(TREE, OTHER, FREE), ((0, len(all_matchings(TREE, OTHER))),))
        self.assertEqual(sure_pairs(TREE, OTHER, FREE), ())
        self.assertEqual(len(open_pairs(TREE, OTHER, FREE)), 12)


class ByDefinition(unittest.TestCase):
    def compare(self, a, b, prices, matchings):
        words = slow_words(a)
        others = slow_words(b)
        costs = [slow_price(words, others, prices, m) for m in matchings]
        least = min(costs)
        those = [m for m, cost in zip(matchings, costs) if cost == least]
        counts = tuple((cost, costs.count(cost)) for cost in sorted(set(costs)))
        pairs = sorted({pair for m in those for pair in m})
        sure = tuple(pair for pair in pairs if all(pair in m for m in those))
        self.assertEqual(forest_distance(a, b, prices), least)
        self.assertIn(least_matching(a, b, prices), those)
        self.assertEqual(first_matching(a, b, prices), those[0])
        self.assertEqual(matching_counts(a, b, prices), counts)
        self.assertEqual(sure_pairs(a, b, prices), sure)
        self.assertEqual(open_pairs(a, b, prices), tuple(p for p in pairs if p not in sure))

    def test_small_shapes(self):
        forests = [a for size in range(4) for a in shapes(size)]
        for a, b in product(forests, forests):
            matchings = slow_matchings(a, b)
            for prices in (EVEN, (3, 1, 2, ())):
                self.compare(a, b, prices, matchings)

    def test_random_words_and_prices(self):
        for k, (a, b) in enumerate(random_pairs(12, 120, 4)):
            matchings = slow_matchings(a, b)
            for prices in (random_prices(k), ALL_PRICES[k % 4]):
                self.compare(a, b, prices, matchings)

    def test_five_nodes(self):
        for k, (a, b) in enumerate(random_pairs(13, 150, 5)):
            self.compare(a, b, random_prices(k), list(all_matchings(a, b)))


class WhatHolds(unittest.TestCase):
    def test_turned(self):
        for k, (a, b) in enumerate(random_pairs(14, 80, 12)):
            prices = random_prices(k)
            n = forest_distance(a, b, prices)
            self.assertEqual(forest_distance(b, a, prices_turned(prices)), n)
            self.assertEqual(forest_distance(forest_turned(a), forest_turned(b), prices), n)
            back = matching_turned(least_matching(a, b, prices))
            self.assertEqual(matching_price(b, a, prices_turned(prices), back), n)

    def test_none_to_itself(self):
        for a in FULL:
            for prices in ALL_PRICES:
                self.assertEqual(forest_distance(a, a, prices), 0)

    def test_joined(self):
        pairs = zip(random_pairs(15, 60, 6), random_pairs(16, 60, 6))
        for k, ((a, b), (c, d)) in enumerate(pairs):
            prices = random_prices(k)
            parts = forest_distance(a, b, prices) + forest_distance(c, d, prices)
            self.assertLessEqual(forest_distance(forest_joined(a, c), forest_joined(b, d), prices), parts)

    def test_rows(self):
        for k, (a, b) in enumerate(random_rows(17, 60, 12)):
            prices = random_prices(k)
            self.assertEqual(forest_distance(of_singles(a), of_singles(b), prices), row_distance(a, b, prices))

    def test_by_way_of_a_third(self):
        chained = 0
        pairs = zip(random_pairs(18, 150, 8), random_pairs(19, 150, 8))
        for k, ((a, b), (c, _)) in enumerate(pairs):
            prices = random_prices(k) if k % 2 else EVEN
            if is_chained(prices, slow_words(a) + slow_words(b) + slow_words(c)):
                chained += 1
                sum_of_both = forest_distance(a, b, prices) + forest_distance(b, c, prices)
                joined = matching_joined(least_matching(a, b, prices), least_matching(b, c, prices))
                self.assertLessEqual(matching_price(a, c, prices, joined), sum_of_both)
                self.assertLessEqual(forest_distance(a, c, prices), sum_of_both)
        self.assertGreater(chained, 75)

    def test_counts(self):
        for k, (a, b) in enumerate(random_pairs(20, 60, 5)):
            counts = matching_counts(a, b, random_prices(k))
            self.assertEqual(counts[0][0], forest_distance(a, b, random_prices(k)))
            self.assertEqual(sum(many for _, many in counts), len(all_matchings(a, b)))

    def test_prices_that_are_not_chained(self):
        a = read_forest("a")
        b = read_forest("b")
        self.assertEqual(forest_distance(a, b, DEAR), 2)
        self.assertEqual(least_matching(a, b, DEAR), ())
        by_c = (5, 5, 9, (("a", "c", 0), ("c", "b", 0)))
        self.assertEqual(forest_distance(a, b, by_c), 9)

    def test_full_size(self):
        for a, b in product(FULL, FULL):
            for prices in ALL_PRICES:
                matching = least_matching(a, b, prices)
                self.assertTrue(is_matching(matching, a, b))
                self.assertEqual(matching_price(a, b, prices, matching), forest_distance(a, b, prices))

    def test_equal_calls(self):
        for a, b in product(FULL, FULL):
            self.assertEqual(least_matching(a, b, EVEN), least_matching(a, b, EVEN))


class Errors(unittest.TestCase):
    def test_in_order(self):
        for function in FUNCTIONS:
            for value in NOTHINGS:
                for args, error, wrong in (
                        ((value, None, None), InvalidForest, 0), ((TREE, value, None), InvalidForest, 1),
                        ((TREE, OTHER, value), InvalidPrices, 2)):
                    with self.assertRaises(error) as caught:
                        function(*args)
                    self.assertIs(caught.exception.value, args[wrong])

    def test_skew_prices(self):
        # Changing a to b costs 1, b to a less than a drop and an add only by these.
        self.assertEqual(forest_distance(read_forest("a"), read_forest("b"), SKEW), 1)
        self.assertEqual(forest_distance(read_forest("b"), read_forest("a"), SKEW), 5)
