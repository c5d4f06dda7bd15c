"""Promise 14: distance papers."""

import random
import unittest
from itertools import product

from graftbook.distancepapers import distance_holds, distance_paper, distance_paper_holds
from graftbook.distances import forest_distance, least_matching
from graftbook.errors import InvalidForest, InvalidPrices
from graftbook.foresttext import read_forest
from graftbook.matchings import all_matchings, matching_price
from tests.samples import (ALL_PRICES, EVEN, FULL, HUGE, NOTHINGS, SKEW, random_pairs, random_prices, slow_change,
                           slow_words, spoilt)
from tests.test_numbers import slow_posts

TREE = read_forest("a(b,c(d))")
OTHER = read_forest("a(b,d)")
ONE = read_forest("a")


def slow_leaves(a):
    order = slow_posts(a)
    sizes = [1 + sum(sizes_below(children)) for children in nodes_children(a)]
    return [post - sizes[number] + 1 for post, number in enumerate(order)]


def nodes_children(a):
    return [below for _, children in a for below in [children] + nodes_children(children)]


def sizes_below(a):
    return [1 + sum(sizes_below(children)) for _, children in a]


def holds_by_words(a, b, prices, n, paper):
    """The words of the document, for a tuple of quintuples of integers."""
    drop, add = prices[:2]
    size, other = len(slow_words(a)), len(slow_words(b))
    words = [slow_words(a)[number] for number in slow_posts(a)]
    others = [slow_words(b)[number] for number in slow_posts(b)]
    if any(p >= q for p, q in zip(paper, paper[1:])) or len({line[:4] for line in paper}) < len(paper):
        return False
    if (0, size - 1, 0, other - 1, n) not in paper:
        return False
    found = {line[:4]: line[4] for line in paper}
    for low, high, start, end, t in paper:
        if not (0 <= low <= size and low - 1 <= high <= size - 1):
            return False
        if not (0 <= start <= other and start - 1 <= end <= other - 1):
            return False
        left, right = high >= low, end >= start
        if not left and not right and t > 0:
            return False
        if left and not found.get((low, high - 1, start, end), -HUGE) + drop >= t:
            return False
        if right and not found.get((low, high, start, end - 1), -HUGE) + add >= t:
            return False
        if left and right:
            leaf, leaf_of_other = slow_leaves(a)[high], slow_leaves(b)[end]
            ahead = found.get((low, leaf - 1, start, leaf_of_other - 1))
            below = found.get((leaf, high - 1, leaf_of_other, end - 1))
            if leaf < low or leaf_of_other < start or ahead is None or below is None:
                return False
            if t > ahead + below + slow_change(prices, words[high], others[end]):
                return False
    return True


def lowered(paper, by):
    return tuple(line[:4] + (line[4] - by,) for line in paper)


def variants(paper, rng):
    """Papers that differ from one in one place."""
    for k, line in enumerate(paper):
        yield paper[:k] + paper[k + 1:]
        yield paper[:k] + (line, line) + paper[k + 1:]
        yield paper[:k] + (line, line[:4] + (line[4] + 1,)) + paper[k + 1:]
        for place in range(5):
            by = rng.choice((-2, -1, 1, 2))
            yield paper[:k] + (line[:place] + (line[place] + by,) + line[place + 1:],) + paper[k + 1:]
            yield tuple(sorted(paper[:k] + (line[:place] + (line[place] + by,) + line[place + 1:],) + paper[k + 1:]))
    if len(paper) > 1:
        yield paper[1:] + paper[:1]


class Papers(unittest.TestCase):
    def test_each_made_one_is_one(self):
        for k, (a, b) in enumerate(random_pairs(21, 60, 7)):
            for prices in (random_prices(k), ALL_PRICES[k % 4]):
                n = forest_distance(a, b, prices)
                paper = distance_paper(a, b, prices)
                self.assertTrue(holds_by_words(a, b, prices, n, paper))
                self.assertIs(distance_paper_holds(a, b, prices, n, paper), True)

    def test_empty(self):
        self.assertEqual(distance_paper((), (), EVEN), ((0, -1, 0, -1, 0),))
        self.assertIs(distance_paper_holds((), (), EVEN, 0, ((0, -1, 0, -1, 0),)), True)
        self.assertIs(distance_paper_holds((), (), EVEN, -3, ((0, -1, 0, -1, -3),)), True)
        self.assertIs(distance_paper_holds((), (), EVEN, 1, ((0, -1, 0, -1, 1),)), False)
        self.assertIs(distance_paper_holds((), (), EVEN, 0, ()), False)
        for a, b in ((TREE, ()), ((), TREE)):
            paper = distance_paper(a, b, SKEW)
            self.assertIs(distance_paper_holds(a, b, SKEW, forest_distance(a, b, SKEW), paper), True)

    def test_full_size(self):
        for k, (a, b) in enumerate(product(FULL, FULL)):
            prices = ALL_PRICES[k % 4]
            n = forest_distance(a, b, prices)
            paper = distance_paper(a, b, prices)
            matching = least_matching(a, b, prices)
            self.assertIs(distance_holds(a, b, prices, n, matching, paper), True)
            self.assertIs(distance_holds(a, b, prices, n + 1, matching, paper), False)
            self.assertIs(distance_paper_holds(a, b, prices, n, paper[1:]), False)

    def test_changed_in_one_place(self):
        rng = random.Random(22)
        held = 0
        for k, (a, b) in enumerate(random_pairs(23, 40, 3)):
            prices = random_prices(k)
            n = forest_distance(a, b, prices)
            for other in variants(distance_paper(a, b, prices), rng):
                right = holds_by_words(a, b, prices, n, other)
                held += right
                self.assertIs(distance_paper_holds(a, b, prices, n, other), right, other)
        self.assertGreater(held, 20)

    def test_more_lines_than_needed(self):
        # All pairs of stretches whose first leaves stand within them.
        paper = distance_paper(ONE, ONE, EVEN)
        lines = ((0, -1, 0, -1, 0), (0, -1, 0, 0, 1), (0, 0, 0, -1, 1), (0, 0, 0, 0, 0))
        self.assertEqual(paper, lines)
        more = lines + ((1, 0, 1, 0, -5),)
        self.assertIs(distance_paper_holds(ONE, ONE, EVEN, 0, more), True)
        self.assertIs(distance_paper_holds(ONE, ONE, EVEN, 0, lines + ((1, 0, 1, 0, 1),)), False)
        self.assertIs(distance_paper_holds(ONE, ONE, EVEN, 0, lines + ((1, 1, 1, 0, 0),)), False)
        self.assertIs(distance_paper_holds(ONE, ONE, EVEN, 0, lines + ((2, 1, 1, 0, 0),)), False)
        self.assertIs(distance_paper_holds(ONE, ONE, EVEN, 0, lines + ((1, -1, 1, 0, 0),)), False)

    def test_first_leaves_below_the_stretch(self):
        # The stretch of the root alone cuts its child off, so it has no ways.
        pair = read_forest("a(b)")
        paper = distance_paper(pair, ONE, EVEN)
        more = tuple(sorted(paper + ((1, 0, 0, -1, -9), (1, 0, 0, 0, -9), (1, 1, 0, -1, -9), (1, 1, 0, 0, -9))))
        self.assertFalse(holds_by_words(pair, ONE, EVEN, 1, more))
        self.assertIs(distance_paper_holds(pair, ONE, EVEN, 1, more), False)
        fewer = tuple(line for line in more if line[:4] != (1, 1, 0, 0))
        self.assertIs(distance_paper_holds(pair, ONE, EVEN, 1, fewer), True)

    def test_numbers_below_the_distance(self):
        n = forest_distance(TREE, OTHER, SKEW)
        for less in (1, 7, HUGE):
            paper = lowered(distance_paper(TREE, OTHER, SKEW), less)
            # Lowered alike, a line that rests on two others has too much.
            right = holds_by_words(TREE, OTHER, SKEW, n - less, paper)
            self.assertIs(distance_paper_holds(TREE, OTHER, SKEW, n - less, paper), right)
        whole = distance_paper(TREE, OTHER, SKEW)
        lower = tuple(line[:4] + (line[4] - (line[:4] == (0, 3, 0, 2)),) for line in whole)
        self.assertIs(distance_paper_holds(TREE, OTHER, SKEW, n - 1, lower), True)
        self.assertIs(distance_paper_holds(TREE, OTHER, SKEW, n, lower), False)

    def test_no_number_above_the_distance(self):
        for k, (a, b) in enumerate(random_pairs(24, 30, 5)):
            prices = random_prices(k)
            n = forest_distance(a, b, prices)
            size, other = len(slow_words(a)), len(slow_words(b))
            paper = distance_paper(a, b, prices)
            whole = (0, size - 1, 0, other - 1)
            raised = tuple(line[:4] + (line[4] + (line[:4] == whole),) for line in paper)
            self.assertIs(distance_paper_holds(a, b, prices, n + 1, raised), False)
            self.assertIs(distance_paper_holds(a, b, prices, n + 1, lowered(paper, -1)), False)
            self.assertIs(distance_paper_holds(a, b, prices, n + 1, paper), False)

    def test_any_value(self):
        paper = distance_paper(ONE, read_forest("b"), EVEN)
        self.assertIs(distance_paper_holds(ONE, read_forest("b"), EVEN, 1, paper), True)
        for value in NOTHINGS:
            self.assertIs(distance_paper_holds(ONE, read_forest("b"), EVEN, 1, value), False)
            if value != 1 or value is True:
                self.assertIs(distance_paper_holds(ONE, read_forest("b"), EVEN, value, paper), False)
        for value in spoilt(paper):
            self.assertIs(distance_paper_holds(ONE, read_forest("b"), EVEN, 1, value), False, value)
        self.assertIs(distance_paper_holds((), (), EVEN, 0, ((False, -1, 0, -1, 0),)), False)
        self.assertIs(distance_paper_holds((), (), EVEN, False, ((0, -1, 0, -1, 0),)), False)
        self.assertIs(distance_paper_holds((), (), EVEN, 0, ((HUGE, HUGE, 0, -1, 0),)), False)


class Holds(unittest.TestCase):
    def test_just_for_the_distance(self):
        for k, (a, b) in enumerate(random_pairs(25, 30, 4)):
            prices = random_prices(k)
            n = forest_distance(a, b, prices)
            paper = distance_paper(a, b, prices)
            for matching in all_matchings(a, b):
                right = matching_price(a, b, prices, matching) == n
                self.assertIs(distance_holds(a, b, prices, n, matching, paper), right)
            for other in (n - 1, n + 1):
                self.assertIs(distance_holds(a, b, prices, other, least_matching(a, b, prices), paper), False)

    def test_a_low_paper_needs_a_low_matching(self):
        paper = distance_paper(TREE, OTHER, SKEW)
        n = forest_distance(TREE, OTHER, SKEW)
        lower = tuple(line[:4] + (line[4] - (line[:4] == (0, 3, 0, 2)),) for line in paper)
        self.assertIs(distance_holds(TREE, OTHER, SKEW, n - 1, least_matching(TREE, OTHER, SKEW), lower), False)

    def test_any_value(self):
        matching = least_matching(TREE, OTHER, EVEN)
        paper = distance_paper(TREE, OTHER, EVEN)
        self.assertIs(distance_holds(TREE, OTHER, EVEN, 1, matching, paper), True)
        for value in NOTHINGS:
            self.assertIs(distance_holds(TREE, OTHER, EVEN, 1, value, paper), False)
            self.assertIs(distance_holds(TREE, OTHER, EVEN, 1, matching, value), False)
            if value != 1 or value is True:
                self.assertIs(distance_holds(TREE, OTHER, EVEN, value, matching, paper), False)
        for value in spoilt(matching):
            self.assertIs(distance_holds(TREE, OTHER, EVEN, 1, value, paper), False)

    def test_errors_in_order(self):
        for function, rest in ((distance_paper, 0), (distance_paper_holds, 2), (distance_holds, 3)):
            for value in NOTHINGS:
                for args, error, wrong in (
                        ((value, None, None), InvalidForest, 0), ((TREE, value, None), InvalidForest, 1),
                        ((TREE, OTHER, value), InvalidPrices, 2)):
                    with self.assertRaises(error) as caught:
                        function(*args, *[None] * rest)
                    self.assertIs(caught.exception.value, args[wrong])
