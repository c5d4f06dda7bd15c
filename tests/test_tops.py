"""Promise 17: matchings from the top."""

import unittest
from itertools import product

from graftbook.distances import forest_distance
from graftbook.errors import InvalidForest, InvalidMatching, InvalidPrices
from graftbook.forests import forest_turned
from graftbook.foresttext import read_forest
from graftbook.matchings import all_matchings, matching_price
from graftbook.prices import prices_turned
from graftbook.tops import first_top_matching, is_from_top, top_distance
from tests.samples import (ALL_PRICES, DEAR, EVEN, FREE, FULL, NOTHINGS, SKEW, random_pairs, random_prices, shapes,
                           slow_matchings, slow_parents, slow_price, slow_words, spoilt)
from tests.test_matchings import NO_MATCHINGS

TREE = read_forest("a(b,c(d))")
OTHER = read_forest("a(b,d)")


def slow_is_from_top(a, b, pairs):
    for i, j in pairs:
        above = (slow_parents(a)[i], slow_parents(b)[j])
        if -1 in above and above != (-1, -1):
            return False
        if above != (-1, -1) and above not in pairs:
            return False
    return True


class IsFromTop(unittest.TestCase):
    def test_ordinary(self):
        for pairs in ((), ((0, 0),), ((0, 0), (1, 1)), ((0, 0), (1, 1), (2, 2)), ((0, 0), (2, 1))):
            self.assertIs(is_from_top(TREE, OTHER, pairs), True, pairs)
        for pairs in (((1, 1),), ((0, 0), (3, 2)), ((0, 0), (1, 1), (3, 2)), ((0, 1),), ((1, 0),), ((3, 0),)):
            self.assertIs(is_from_top(TREE, OTHER, pairs), False, pairs)
        self.assertIs(is_from_top((), (), ()), True)

    def test_a_root_with_a_node_below(self):
        two = read_forest("a,b(c)")
        self.assertIs(is_from_top(two, two, ((1, 1), (2, 2))), True)
        self.assertIs(is_from_top(two, two, ((0, 1),)), True)
        self.assertIs(is_from_top(two, two, ((0, 2),)), False)
        self.assertIs(is_from_top(two, two, ((2, 0),)), False)
        self.assertIs(is_from_top(two, two, ((2, 2),)), False)

    def test_by_definition(self):
        forests = [a for size in range(5) for a in shapes(size)]
        for a, b in product(forests, forests[:12]):
            for pairs in all_matchings(a, b):
                self.assertIs(is_from_top(a, b, pairs), slow_is_from_top(a, b, pairs))

    def test_full_size(self):
        same = tuple((k, k) for k in range(12))
        for a in FULL:
            self.assertIs(is_from_top(a, a, same), True)
            for k in range(12):
                pairs = same[:k] + same[k + 1:]
                self.assertIs(is_from_top(a, a, pairs), slow_is_from_top(a, a, pairs))

    def test_errors_in_order(self):
        for value in NOTHINGS:
            for args, error, wrong in (
                    ((value, None, None), InvalidForest, 0), ((TREE, value, None), InvalidForest, 1),
                    ((TREE, OTHER, value), InvalidMatching, 2)):
                with self.assertRaises(error) as caught:
                    is_from_top(*args)
                self.assertIs(caught.exception.value, args[wrong])
        for value in NO_MATCHINGS + tuple(spoilt(((0, 0), (1, 1)))):
            with self.assertRaises(InvalidMatching) as caught:
                is_from_top(TREE, OTHER, value)
            self.assertIs(caught.exception.value, value)


class Distance(unittest.TestCase):
    def test_ordinary(self):
        # c and d have the place of d and its lost child: one change, one drop.
        self.assertEqual(top_distance(TREE, OTHER, EVEN), 2)
        self.assertEqual(first_top_matching(TREE, OTHER, EVEN), ((0, 0), (1, 1), (2, 2)))
        self.assertEqual(top_distance(read_forest("a(b)"), read_forest("b"), EVEN), 2)
        self.assertEqual(top_distance(read_forest("a(b)"), read_forest("b"), DEAR), 3)
        self.assertEqual(first_top_matching(read_forest("a(b)"), read_forest("b"), DEAR), ())
        self.assertEqual(top_distance(read_forest("a,b"), read_forest("b"), DEAR), 1)

    def test_empty(self):
        for prices in ALL_PRICES:
            self.assertEqual(top_distance((), (), prices), 0)
            self.assertEqual(top_distance(TREE, (), prices), 4 * prices[0])
            self.assertEqual(top_distance((), TREE, prices), 4 * prices[1])
            for a, b in (((), ()), (TREE, ()), ((), TREE)):
                self.assertEqual(first_top_matching(a, b, prices), ())

    def test_the_first_of_several(self):
        self.assertEqual(first_top_matching(TREE, TREE, FREE), ())
        self.assertEqual(first_top_matching(read_forest("a,a"), read_forest("a"), EVEN), ((0, 0),))
        self.assertEqual(first_top_matching(read_forest("a"), read_forest("a,a"), EVEN), ((0, 0),))
        self.assertEqual(first_top_matching(read_forest("a"), read_forest("b"), (1, 1, 2, ())), ())
        self.assertEqual(first_top_matching(read_forest("b,a"), read_forest("a,b"), (1, 1, 2, ())), ((0, 1),))

    def compare(self, a, b, prices):
        words, others = slow_words(a), slow_words(b)
        found = [m for m in slow_matchings(a, b) if slow_is_from_top(a, b, m)]
        costs = [slow_price(words, others, prices, m) for m in found]
        self.assertEqual(top_distance(a, b, prices), min(costs))
        self.assertEqual(first_top_matching(a, b, prices), found[costs.index(min(costs))])

    def test_small_shapes(self):
        forests = [a for size in range(4) for a in shapes(size)]
        for a, b in product(forests, forests):
            for prices in (EVEN, FREE, (3, 1, 2, ())):
                self.compare(a, b, prices)

    def test_random_words_and_prices(self):
        for k, (a, b) in enumerate(random_pairs(51, 150, 4)):
            for prices in (random_prices(k), ALL_PRICES[k % 4]):
                self.compare(a, b, prices)

    def test_five_nodes(self):
        for k, (a, b) in enumerate(random_pairs(52, 150, 5)):
            prices = random_prices(k)
            found = [m for m in all_matchings(a, b) if slow_is_from_top(a, b, m)]
            costs = [matching_price(a, b, prices, m) for m in found]
            self.assertEqual(top_distance(a, b, prices), min(costs))
            self.assertEqual(first_top_matching(a, b, prices), found[costs.index(min(costs))])

    def test_never_less_than_the_distance(self):
        for k, (a, b) in enumerate(random_pairs(53, 150, 12)):
            prices = random_prices(k)
            n = top_distance(a, b, prices)
            self.assertGreaterEqual(n, forest_distance(a, b, prices))
            self.assertEqual(top_distance(b, a, prices_turned(prices)), n)
            self.assertEqual(top_distance(forest_turned(a), forest_turned(b), prices), n)

    def test_full_size(self):
        for a, b in product(FULL, FULL):
            for prices in ALL_PRICES:
                self.assertGreaterEqual(top_distance(a, b, prices), forest_distance(a, b, prices))
                self.assertEqual(top_distance(a, a, prices), 0)
        self.assertEqual(top_distance(FULL[0], FULL[1], EVEN), 22)

    def test_errors_in_order(self):
        for function in (top_distance, first_top_matching):
            for value in NOTHINGS:
                for args, error, wrong in (
                        ((value, None, None), InvalidForest, 0), ((TREE, value, None), InvalidForest, 1),
                        ((TREE, OTHER, value), InvalidPrices, 2)):
                    with self.assertRaises(error) as caught:
                        function(*args)
                    self.assertIs(caught.exception.value, args[wrong])

    def test_skew_prices(self):
        self.assertEqual(top_distance(read_forest("a"), read_forest("b"), SKEW), 1)
        self.assertEqual(top_distance(read_forest("b"), read_forest("a"), SKEW), 5)
