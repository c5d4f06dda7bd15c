"""Promise 11: row papers."""

import random
import unittest

from graftbook.errors import InvalidPrices
from graftbook.rowpapers import row_paper, row_paper_holds
from graftbook.rows import row_distance
from tests.samples import ALL_PRICES, EVEN, HUGE, NOTHINGS, SKEW, random_prices, slow_change, spoilt
from tests.test_rows import ABC, random_rows


def holds_by_words(a, b, prices, n, t):
    """The words of the document, for a table of integers of the right size."""
    drop, add = prices[:2]
    if t[0][0] > 0 or t[len(a)][len(b)] != n:
        return False
    for i in range(len(a) + 1):
        for j in range(len(b) + 1):
            if i > 0 and t[i][j] > t[i - 1][j] + drop:
                return False
            if j > 0 and t[i][j] > t[i][j - 1] + add:
                return False
            if i > 0 and j > 0:
                if t[i][j] > t[i - 1][j - 1] + slow_change(prices, a[i - 1], b[j - 1]):
                    return False
    return True


def changed(paper, i, j, by):
    rows = [list(row) for row in paper]
    rows[i][j] += by
    return tuple(tuple(row) for row in rows)


class RowPapers(unittest.TestCase):
    def test_each_made_one_is_one(self):
        for k, (a, b) in enumerate(random_rows(6, 200, 6)):
            for prices in (random_prices(k), ALL_PRICES[k % 4]):
                paper = row_paper(a, b, prices)
                n = row_distance(a, b, prices)
                self.assertTrue(holds_by_words(a, b, prices, n, paper))
                self.assertIs(row_paper_holds(a, b, prices, n, paper), True)

    def test_empty_rows(self):
        self.assertIs(row_paper_holds((), [], EVEN, 0, ((0,),)), True)
        self.assertIs(row_paper_holds((), (), EVEN, -7, ((-7,),)), True)
        self.assertIs(row_paper_holds((), (), EVEN, 1, ((1,),)), False)
        self.assertIs(row_paper_holds((), (), EVEN, 0, ()), False)
        self.assertIs(row_paper_holds((), (), EVEN, 0, ((),)), False)
        self.assertEqual(row_paper((), (), EVEN), ((0,),))

    def test_full_size(self):
        a = ["a", "b", "c"] * 4
        b = ["c", "b"] * 6
        for prices in ALL_PRICES:
            paper = row_paper(a, b, prices)
            n = row_distance(a, b, prices)
            self.assertIs(row_paper_holds(a, b, prices, n, paper), True)
            self.assertIs(row_paper_holds(a, b, prices, n, tuple(paper[:12])), False)

    def test_changed_in_one_place(self):
        rng = random.Random(7)
        for k, (a, b) in enumerate(random_rows(7, 60, 3)):
            prices = random_prices(k)
            n = row_distance(a, b, prices)
            paper = row_paper(a, b, prices)
            for i in range(len(a) + 1):
                for j in range(len(b) + 1):
                    other = changed(paper, i, j, rng.choice((-2, -1, 1, 2)))
                    for number in (n, other[len(a)][len(b)]):
                        held = holds_by_words(a, b, prices, number, other)
                        self.assertIs(row_paper_holds(a, b, prices, number, other), held)

    def test_numbers_below_the_distance(self):
        paper = row_paper(ABC, ("b",), SKEW)
        n = row_distance(ABC, ("b",), SKEW)
        for less in (1, 5, HUGE):
            lower = changed(paper, 3, 1, -less)
            self.assertIs(row_paper_holds(ABC, ("b",), SKEW, n - less, lower), True)
            self.assertIs(row_paper_holds(ABC, ("b",), SKEW, n, lower), False)

    def test_no_number_above_the_distance(self):
        for more in (1, HUGE):
            n = row_distance(ABC, ("b",), SKEW) + more
            raised = tuple(tuple(t + more for t in row) for row in row_paper(ABC, ("b",), SKEW))
            self.assertIs(row_paper_holds(ABC, ("b",), SKEW, n, raised), False)
            self.assertIs(row_paper_holds(ABC, ("b",), SKEW, n, changed(raised, 0, 0, -more)), False)

    def test_any_value(self):
        paper = row_paper(ABC, ("b",), EVEN)
        self.assertIs(row_paper_holds(ABC, ("b",), EVEN, 2, paper), True)
        for value in NOTHINGS:
            self.assertIs(row_paper_holds(ABC, ("b",), EVEN, 2, value), False)
            self.assertIs(row_paper_holds(ABC, ("b",), EVEN, value, paper), False)
            self.assertIs(row_paper_holds((), (), EVEN, value, value), False)
        for value in spoilt(paper):
            self.assertIs(row_paper_holds(ABC, ("b",), EVEN, 2, value), False, value)
        self.assertIs(row_paper_holds(ABC, ("b",), EVEN, 2, paper + (paper[0],)), False)
        self.assertIs(row_paper_holds(ABC, ("b",), EVEN, 2, tuple(row + (0,) for row in paper)), False)

    def test_bools_are_no_numbers(self):
        self.assertIs(row_paper_holds(("a",), (), EVEN, True, ((0,), (1,))), False)
        self.assertIs(row_paper_holds(("a",), (), EVEN, 1, ((0,), (True,))), False)
        self.assertIs(row_paper_holds(("a",), (), EVEN, 1, ((False,), (1,))), False)
        self.assertIs(row_paper_holds(("a",), (), EVEN, 1, ((0,), (1,))), True)

    def test_errors(self):
        for value in NOTHINGS:
            for call in (lambda p: row_paper(ABC, ABC, p), lambda p: row_paper_holds((), (), p, None, None)):
                with self.assertRaises(InvalidPrices) as caught:
                    call(value)
                self.assertIs(caught.exception.value, value)
