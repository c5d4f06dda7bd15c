"""Promise 10: rows of words and their matchings."""

import random
import unittest

from graftbook.errors import InvalidMatching, InvalidPrices
from graftbook.rows import common_row, count_row_matchings, first_row_matching, row_distance, row_price
from tests.samples import (ALL_PRICES, DEAR, EVEN, FREE, HUGE, NOTHINGS, SKEW, random_prices, slow_price,
                           slow_row_matchings, spoilt)

ABC = ("a", "b", "c")
NO_MATCHINGS = (
    ((0, 0), (0, 1)), ((0, 0), (1, 0)), ((0, 1), (1, 0)), ((1, 1), (0, 0)), ((0, 3),), ((3, 0),),
    ((-1, 0),), ((0, -1),), ((0, 0, 0),), ((0,),), ((),), (0, 0), ([0, 0],), [(0, 0)], ((False, 0),),
    ((0, True),), (("0", 0),), ((0, None),), ((HUGE, 0),), ((0, HUGE),), None, True, 0, "", [],
)


def random_rows(seed, many, most):
    rng = random.Random(seed)
    for _ in range(many):
        yield ([rng.choice(ABC) for _ in range(rng.randint(0, most))],
               [rng.choice(ABC) for _ in range(rng.randint(0, most))])


class RowPrice(unittest.TestCase):
    def test_ordinary(self):
        self.assertEqual(row_price(ABC, ("a", "c"), SKEW, ((0, 0), (2, 1))), 2)
        self.assertEqual(row_price(ABC, ["b"], SKEW, ((0, 0),)), 5)
        self.assertEqual(row_price(list(ABC), ("c", "c"), SKEW, ((1, 1),)), 2 * 2 + 3)
        self.assertEqual(row_price(ABC, ("a",), SKEW, ()), 9)
        self.assertEqual(row_price((), [], SKEW, ()), 0)

    def test_by_definition(self):
        for k, (a, b) in enumerate(random_rows(3, 20, 4)):
            prices = random_prices(k)
            for matching in slow_row_matchings(a, b):
                self.assertEqual(row_price(a, b, prices, matching), slow_price(a, b, prices, matching))

    def test_no_matchings(self):
        for value in NO_MATCHINGS + NOTHINGS:
            with self.assertRaises(InvalidMatching) as caught:
                row_price(ABC, ABC, EVEN, value)
            self.assertIs(caught.exception.value, value)
        for value in spoilt(((0, 0), (2, 2))):
            with self.assertRaises(InvalidMatching):
                row_price(ABC, ABC, EVEN, value)
        with self.assertRaises(InvalidMatching):
            row_price((), (), EVEN, ((0, 0),))


class Least(unittest.TestCase):
    def test_ordinary(self):
        self.assertEqual(row_distance(ABC, ("a", "c"), EVEN), 1)
        self.assertEqual(first_row_matching(ABC, ("a", "c"), EVEN), ((0, 0), (2, 1)))
        self.assertEqual(count_row_matchings(ABC, ("a", "c"), EVEN), 1)
        self.assertEqual(row_distance(["a", "a"], ["a"], EVEN), 1)
        self.assertEqual(first_row_matching(["a", "a"], ["a"], EVEN), ((0, 0),))
        self.assertEqual(count_row_matchings(["a", "a"], ["a"], EVEN), 2)

    def test_empty_rows(self):
        for prices in ALL_PRICES:
            self.assertEqual(row_distance((), [], prices), 0)
            self.assertEqual(row_distance((), ABC, prices), 3 * prices[1])
            self.assertEqual(row_distance(ABC, (), prices), 3 * prices[0])
            self.assertEqual(first_row_matching((), (), prices), ())
            self.assertEqual(first_row_matching(ABC, (), prices), ())
            self.assertEqual(count_row_matchings((), ABC, prices), 1)

    def test_free_prices(self):
        self.assertEqual(row_distance(ABC, ABC, FREE), 0)
        self.assertEqual(first_row_matching(ABC, ABC, FREE), ())
        self.assertEqual(count_row_matchings(ABC, ABC, FREE), 20)

    def test_a_matching_comes_ahead_of_longer_ones(self):
        # A change costs as much as a drop and an add.
        prices = (1, 1, 2, ())
        self.assertEqual(first_row_matching(["a", "b"], ["a", "c"], prices), ((0, 0),))
        self.assertEqual(first_row_matching(["b", "a"], ["c", "a"], prices), ((0, 0), (1, 1)))

    def test_by_definition(self):
        for k, (a, b) in enumerate(random_rows(4, 300, 4)):
            for prices in (random_prices(k), ALL_PRICES[k % 4]):
                matchings = slow_row_matchings(a, b)
                least = min(slow_price(a, b, prices, matching) for matching in matchings)
                those = [m for m in matchings if slow_price(a, b, prices, m) == least]
                self.assertEqual(row_distance(a, b, prices), least)
                self.assertEqual(first_row_matching(a, b, prices), those[0])
                self.assertEqual(count_row_matchings(a, b, prices), len(those))

    def test_full_size(self):
        a = ["a", "b", "c"] * 4
        b = ["b", "c", "a"] * 4
        self.assertEqual(row_distance(a, b, EVEN), 2)
        self.assertEqual(row_price(a, b, EVEN, first_row_matching(a, b, EVEN)), 2)
        self.assertEqual(count_row_matchings(["a"] * 12, ["a"] * 12, FREE), 2704156)
        self.assertEqual(count_row_matchings(["a"] * 12, ["a"] * 6, EVEN), 924)


class CommonRow(unittest.TestCase):
    def test_ordinary(self):
        self.assertEqual(common_row(ABC, ("c", "a", "b")), ((0, 1), (1, 2)))
        self.assertEqual(common_row(("a", "a"), ["a"]), ((0, 0),))
        self.assertEqual(common_row(["a"], ["b", "a", "a"]), ((0, 1),))
        self.assertEqual(common_row((), ABC), ())
        self.assertEqual(common_row(ABC, ("d", "e")), ())

    def test_by_definition(self):
        for a, b in random_rows(5, 400, 5):
            equal = [m for m in slow_row_matchings(a, b) if all(a[i] == b[j] for i, j in m)]
            longest = max(len(m) for m in equal)
            first = min((m for m in equal if len(m) == longest),
                        key=lambda m: (tuple(i for i, _ in m), tuple(j for _, j in m)))
            self.assertEqual(common_row(a, b), first)

    def test_full_size(self):
        row = ["a", "b"] * 6
        self.assertEqual(common_row(row, row), tuple((k, k) for k in range(12)))
        self.assertEqual(len(common_row(row, row[1:] + ["c"])), 11)


class Errors(unittest.TestCase):
    def test_prices(self):
        for value in NOTHINGS:
            for call in (lambda p: row_price(ABC, ABC, p, None), lambda p: row_distance(ABC, ABC, p),
                         lambda p: first_row_matching((), (), p), lambda p: count_row_matchings((), (), p)):
                with self.assertRaises(InvalidPrices) as caught:
                    call(value)
                self.assertIs(caught.exception.value, value)

    def test_dear_pairs_are_never_least(self):
        self.assertEqual(first_row_matching(("a",), ("b",), DEAR), ())
