"""Promise 9: prices."""

import unittest

from graftbook.errors import InvalidPrices
from graftbook.prices import change_price, is_chained, is_prices, prices_turned
from tests.samples import ALL_PRICES, EVEN, HUGE, NOTHINGS, SKEW, random_prices, slow_change, spoilt

NO_PRICES = (
    (1, 1, 1), (1, 1, 1, (), ()), [1, 1, 1, ()], (1, 1, 1, []), (-1, 1, 1, ()), (1, -1, 1, ()),
    (1, 1, -1, ()), (True, 1, 1, ()), (1, False, 1, ()), (1, 1, True, ()), ("1", 1, 1, ()),
    (1, None, 1, ()), (1, 1, 1, None), (1, 1, 1, "ab"), (1, 1, 1, (("a", "a", 1),)),
    (1, 1, 1, (("a", "b", -1),)), (1, 1, 1, (("a", "b", True),)), (1, 1, 1, (("a", "b"),)),
    (1, 1, 1, (["a", "b", 1],)), (1, 1, 1, (("a", "B", 1),)), (1, 1, 1, (("", "b", 1),)),
    (1, 1, 1, (("a", "abcdefghi", 1),)), (1, 1, 1, (("a", "b", 1), ("a", "b", 1))),
    (1, 1, 1, (("a", "b", 1), ("b", "a", 1), ("a", "b", 2))), (1, 1, 1, (((), "b", 1),)),
    (1, 1, 1, (("a", ["b"], 1),)), (1, 1, 1, (1, 2, 3)), (1, 1, 1, ("ab1",)),
)


class Prices(unittest.TestCase):
    def test_is_prices(self):
        for value in ALL_PRICES + ((0, 0, 0, ()), (999, 0, HUGE, ()), (1, 1, 1, (("a", "b", 0),))):
            self.assertIs(is_prices(value), True)
        many = tuple(("a" * k, "b", k) for k in range(1, 9))
        self.assertIs(is_prices((1, 1, 1, many)), True)

    def test_other_values(self):
        for value in NO_PRICES + NOTHINGS:
            self.assertIs(is_prices(value), False, repr(value)[:80])
        for value in spoilt(SKEW):
            self.assertIs(is_prices(value), False, value)

    def test_change_price(self):
        self.assertEqual(change_price(SKEW, "a", "b"), 1)
        self.assertEqual(change_price(SKEW, "b", "a"), 9)
        self.assertEqual(change_price(SKEW, "b", "c"), 0)
        self.assertEqual(change_price(SKEW, "c", "b"), 4)
        self.assertEqual(change_price(SKEW, "c", "c"), 0)
        self.assertEqual(change_price(SKEW, "a", "a"), 0)
        self.assertEqual(change_price(EVEN, "abcdefgh", "abcdefgi"), 1)

    def test_turned(self):
        turned = (3, 2, 4, (("b", "a", 1), ("a", "b", 9), ("c", "b", 0)))
        self.assertEqual(prices_turned(SKEW), turned)
        self.assertEqual(prices_turned(turned), SKEW)
        self.assertEqual(prices_turned((1, 2, 3, ())), (2, 1, 3, ()))

    def test_chained(self):
        self.assertIs(is_chained(EVEN, ("a", "b", "c")), True)
        self.assertIs(is_chained(EVEN, ()), True)
        self.assertIs(is_chained(EVEN, ["a"]), True)
        self.assertIs(is_chained((1, 1, 2, ()), ["a", "b"]), True)
        self.assertIs(is_chained((1, 1, 3, ()), ["a", "b"]), False)
        self.assertIs(is_chained((1, 1, 3, ()), ["a", "a"]), True)
        dear = (9, 9, 2, (("a", "c", 5),))
        self.assertIs(is_chained(dear, ["a", "b", "c"]), False)
        self.assertIs(is_chained(dear, ["a", "c"]), True)
        self.assertIs(is_chained((9, 9, 2, (("a", "c", 4),)), ("c", "b", "a")), True)

    def test_chained_by_definition(self):
        for seed in range(200):
            prices = random_prices(seed)
            words = ["a", "b", "c", "a"][:seed % 5]
            chained = all(
                slow_change(prices, a, c) <= slow_change(prices, a, b) + slow_change(prices, b, c)
                and slow_change(prices, a, c) <= prices[0] + prices[1]
                for a in words for b in words for c in words)
            self.assertIs(is_chained(prices, words), chained)

    def test_errors(self):
        for value in NO_PRICES + NOTHINGS:
            for call in (lambda p: change_price(p, "a", "a"), prices_turned, lambda p: is_chained(p, ())):
                with self.assertRaises(InvalidPrices) as caught:
                    call(value)
                self.assertIs(caught.exception.value, value)
