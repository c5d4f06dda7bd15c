"""Promise 21: loose distances and their papers."""

import random
import unittest
from itertools import product

from graftbook.errors import InvalidForest, InvalidPrices
from graftbook.forests import forest_turned
from graftbook.foresttext import read_forest
from graftbook.likeness import alike
from graftbook.loose import loose_distance, loose_holds, loose_pairs, loose_paper
from graftbook.prices import prices_turned
from graftbook.tops import top_distance
from tests.samples import (ALL_PRICES, DEAR, EVEN, FREE, FULL, HUGE, NOTHINGS, SKEW, all_sets_of_pairs, nested,
                           random_pairs, random_prices, shapes, slow_change, slow_parents, slow_price, slow_words,
                           spoilt)
from tests.test_likeness import shuffled

TREE = read_forest("a(b,c(d))")
OTHER = read_forest("a(c,b)")
PAIR = read_forest("a(b)")
ONE = read_forest("b")


def slow_is_loose(pairs, a, b):
    """Whether a set of pairs in which no node stands twice is one by the words of the document."""
    parents, others = slow_parents(a), slow_parents(b)
    return all((parents[i], others[j]) == (-1, -1) or (parents[i], others[j]) in pairs for i, j in pairs)


def slow_size(tree):
    return len(slow_words((tree,)))


def slow_paper_holds(a, b, prices, n, paper):
    """The words of the document, for a paper whose parts are tuples of the lengths that they must have."""
    parts, u, v = paper
    if len(u) != len(a) or len(v) != len(b) or sum(u + v) != n:
        return False
    if any(low > prices[0] * slow_size(tree) for low, tree in zip(u, a)):
        return False
    if any(low > prices[1] * slow_size(tree) for low, tree in zip(v, b)):
        return False
    for i, (word, children) in enumerate(a):
        for j, (other, below) in enumerate(b):
            t, inner = parts[i][j]
            if u[i] + v[j] > t:
                return False
            if not slow_paper_holds(children, below, prices, t - slow_change(prices, word, other), inner):
                return False
    return True


def numbers_changed(value, rng):
    """Copies of a paper with one of its integers changed."""
    for k, part in enumerate(value):
        if isinstance(part, tuple):
            for other in numbers_changed(part, rng):
                yield value[:k] + (other,) + value[k + 1:]
        else:
            yield value[:k] + (part + rng.choice((-2, -1, 1, 2)),) + value[k + 1:]


def integers_in(value):
    return sum(integers_in(part) for part in value) if isinstance(value, tuple) else 1


class Ordinary(unittest.TestCase):
    def test_order_does_not_matter(self):
        self.assertEqual(loose_distance(TREE, OTHER, EVEN), 1)
        self.assertEqual(loose_pairs(TREE, OTHER, EVEN), ((0, 0), (1, 2), (2, 1)))
        self.assertEqual(top_distance(TREE, OTHER, EVEN), 3)

    def test_parents_do(self):
        self.assertEqual(loose_distance(PAIR, ONE, EVEN), 2)
        self.assertEqual(loose_distance(PAIR, ONE, DEAR), 3)
        self.assertEqual(loose_pairs(PAIR, ONE, DEAR), ())
        self.assertEqual(loose_pairs(PAIR, ONE, (2, 1, 0, ())), ((0, 0),))

    def test_empty(self):
        for prices in ALL_PRICES:
            self.assertEqual(loose_distance((), (), prices), 0)
            self.assertEqual(loose_distance(TREE, (), prices), 4 * prices[0])
            self.assertEqual(loose_distance((), TREE, prices), 4 * prices[1])
            self.assertEqual(loose_paper((), (), prices), ((), (), ()))
            self.assertEqual(loose_paper(TREE, (), prices), (((),), (4 * prices[0],), ()))
            self.assertEqual(loose_paper((), TREE, prices), ((), (), (4 * prices[1],)))
            for a, b in (((), ()), (TREE, ()), ((), TREE)):
                self.assertEqual(loose_pairs(a, b, prices), ())
                n = loose_distance(a, b, prices)
                self.assertIs(loose_holds(a, b, prices, n, (), loose_paper(a, b, prices)), True)
                self.assertIs(loose_holds(a, b, prices, n + 1, (), loose_paper(a, b, prices)), False)

    def test_equal_trees_side_by_side(self):
        a = read_forest("a(b),a(b),a")
        b = read_forest("a,a(b),a(c)")
        self.assertEqual(loose_distance(a, b, EVEN), 1)
        self.assertIs(loose_holds(a, b, EVEN, 1, loose_pairs(a, b, EVEN), loose_paper(a, b, EVEN)), True)


class ByDefinition(unittest.TestCase):
    def compare(self, a, b, prices, sets):
        words, others = slow_words(a), slow_words(b)
        costs = [slow_price(words, others, prices, pairs) for pairs in sets]
        n = loose_distance(a, b, prices)
        self.assertEqual(n, min(costs))
        pairs = loose_pairs(a, b, prices)
        self.assertIn((n, pairs), list(zip(costs, sets)))
        paper = loose_paper(a, b, prices)
        self.assertTrue(slow_paper_holds(a, b, prices, n, paper))
        for cost, other in zip(costs, sets):
            self.assertIs(loose_holds(a, b, prices, cost, other, paper), cost == n)

    def test_small_shapes(self):
        forests = [a for size in range(4) for a in shapes(size)]
        for a, b in product(forests, forests):
            sets = all_sets_of_pairs(len(slow_words(a)), len(slow_words(b)))
            sets = [pairs for pairs in sets if slow_is_loose(pairs, a, b)]
            for prices in (EVEN, FREE, (3, 1, 2, ())):
                self.compare(a, b, prices, sets)

    def test_random_words_and_prices(self):
        for k, (a, b) in enumerate(random_pairs(91, 150, 5)):
            sets = all_sets_of_pairs(len(slow_words(a)), len(slow_words(b)))
            sets = [pairs for pairs in sets if slow_is_loose(pairs, a, b)]
            for prices in (random_prices(k), ALL_PRICES[k % 4]):
                self.compare(a, b, prices, sets)

    def test_all_sets(self):
        for k, (a, b) in enumerate(random_pairs(92, 30, 4)):
            prices = random_prices(k)
            words, others = slow_words(a), slow_words(b)
            n, paper = loose_distance(a, b, prices), loose_paper(a, b, prices)
            for pairs in all_sets_of_pairs(len(words), len(others)):
                cost = slow_price(words, others, prices, pairs)
                right = cost == n and slow_is_loose(pairs, a, b)
                self.assertIs(loose_holds(a, b, prices, n, pairs, paper), right)


class Larger(unittest.TestCase):
    def judge(self, a, b, prices):
        n = loose_distance(a, b, prices)
        pairs = loose_pairs(a, b, prices)
        paper = loose_paper(a, b, prices)
        self.assertEqual(pairs, tuple(sorted(pairs)))
        self.assertTrue(slow_is_loose(pairs, a, b))
        self.assertEqual(slow_price(slow_words(a), slow_words(b), prices, pairs), n)
        self.assertTrue(slow_paper_holds(a, b, prices, n, paper))
        self.assertIs(loose_holds(a, b, prices, n, pairs, paper), True)
        self.assertEqual((pairs, paper), (loose_pairs(a, b, prices), loose_paper(a, b, prices)))
        self.assertLessEqual(integers_in(paper), 4000)
        return n

    def test_full_size(self):
        extra = tuple(read_forest(text) for text in (
            "a(b,c,d,e,f,g,h,i,j,k,l)", "a,a,a,a,a,a,b,b,b,b,b,b", "a(a),b(b),c(c),a(b),b(c),c(a)",
            "a(a(a(a),a),a(a(a)),a(a(a),a)),a", "a(b,c,d),c(d,a,b),b(c,a,d)"))
        for k, (a, b) in enumerate(product(FULL + extra, FULL + extra)):
            self.judge(a, b, ALL_PRICES[k % 4])
            self.judge(a, b, random_prices(k))
            if a == b:
                self.assertEqual(self.judge(a, b, SKEW), 0)

    def test_what_holds(self):
        rng = random.Random(93)
        for k, (a, b) in enumerate(random_pairs(93, 150, 12)):
            prices = random_prices(k)
            n = self.judge(a, b, prices)
            self.assertLessEqual(n, top_distance(a, b, prices))
            self.assertEqual(loose_distance(b, a, prices_turned(prices)), n)
            self.assertEqual(loose_distance(shuffled(rng, a), forest_turned(b), prices), n)
            self.assertEqual(loose_distance(a, shuffled(rng, a), prices), 0)
            self.assertEqual(loose_distance(a, b, DEAR) == 0, alike(a, b))


class Papers(unittest.TestCase):
    def test_changed_in_one_place(self):
        rng = random.Random(94)
        held = fell = 0
        for k, (a, b) in enumerate(random_pairs(95, 120, 5)):
            prices = random_prices(k)
            n, pairs, paper = loose_distance(a, b, prices), loose_pairs(a, b, prices), loose_paper(a, b, prices)
            for other in numbers_changed(paper, rng):
                for twice in [other] + list(numbers_changed(other, rng)):
                    right = slow_paper_holds(a, b, prices, n, twice)
                    held += right
                    fell += not right
                    self.assertIs(loose_holds(a, b, prices, n, pairs, twice), right, twice)
        self.assertGreater(min(held, fell), 100)

    def test_two_numbers_moved(self):
        # With one part cheaper the bounds may be moved, as long as none is above its own.
        a, b = read_forest("a"), read_forest("b")
        for t, u, v, right in ((1, 0, 1, True), (1, 1, 0, True), (1, 2, -1, False), (1, -1, 2, False),
                               (0, 0, 1, False), (2, 0, 1, False), (1, 1, 1, False), (1, 0, 0, False)):
            paper = (((((t, ((), (), ())),),)), (u,), (v,))
            self.assertIs(slow_paper_holds(a, b, EVEN, 1, paper), right)
            self.assertIs(loose_holds(a, b, EVEN, 1, ((0, 0),), paper), right)

    def test_a_low_paper_needs_a_low_set(self):
        a, b = read_forest("a"), read_forest("b")
        paper = ((((1, ((), (), ())),),), (-5,), (1,))
        self.assertTrue(slow_paper_holds(a, b, EVEN, -4, paper))
        for pairs in ((), ((0, 0),)):
            for n in (-4, 1, 2):
                self.assertIs(loose_holds(a, b, EVEN, n, pairs, paper), False)

    def test_parts_of_other_lengths(self):
        n, pairs = loose_distance(TREE, OTHER, EVEN), loose_pairs(TREE, OTHER, EVEN)
        parts, u, v = loose_paper(TREE, OTHER, EVEN)
        for paper in ((parts + ((),), u, v), (parts[:-1], u, v), (parts, u + (0,), v), (parts, u, v + (0,)),
                      (parts, u), (parts, u, v, ()), (parts, v + u, ()), ((parts[0] + parts[0],), u, v),
                      ((parts[0] * 2,), u, v), (((parts[0][0] + (0,),),), u, v), (((parts[0][0][:1],),), u, v),
                      ((((),),), u, v), (((),), u, v), ((), u, v)):
            self.assertIs(loose_holds(TREE, OTHER, EVEN, n, pairs, paper), False)

    def test_any_paper(self):
        n, pairs = loose_distance(TREE, OTHER, EVEN), loose_pairs(TREE, OTHER, EVEN)
        paper = loose_paper(TREE, OTHER, EVEN)
        self.assertIs(loose_holds(TREE, OTHER, EVEN, n, pairs, paper), True)
        for value in NOTHINGS + (nested(60), (), {}):
            self.assertIs(loose_holds(TREE, OTHER, EVEN, n, pairs, value), False)
            self.assertIs(loose_holds((), (), EVEN, 0, (), value), False)
        for value in spoilt(paper):
            self.assertIs(loose_holds(TREE, OTHER, EVEN, n, pairs, value), False, value)

    def test_true_and_false_are_no_numbers(self):
        a, b = read_forest("a"), read_forest("b")
        good = (((((1, ((), (), ())),),)), (1,), (0,))
        self.assertIs(loose_holds(a, b, EVEN, 1, ((0, 0),), good), True)
        self.assertIs(loose_holds(a, b, EVEN, True, ((0, 0),), good), False)
        self.assertIs(loose_holds(a, b, EVEN, 1, ((False, 0),), good), False)
        self.assertIs(loose_holds(a, b, EVEN, 1, ((0, False),), good), False)
        self.assertIs(loose_holds(a, b, EVEN, 1, ((0, 0),), (((((True, ((), (), ())),),)), (1,), (0,))), False)
        self.assertIs(loose_holds(a, b, EVEN, 1, ((0, 0),), (good[0], (True,), (0,))), False)
        self.assertIs(loose_holds(a, b, EVEN, 1, ((0, 0),), (good[0], (1,), (False,))), False)


class Pairs(unittest.TestCase):
    def test_no_sets(self):
        # Two swapped leaves: by their numbers alone all of these could have the price 0.
        a = read_forest("a(b,b)")
        paper = loose_paper(a, a, EVEN)
        for pairs in (((0, 0), (1, 1), (2, 2)), ((0, 0), (1, 2), (2, 1))):
            self.assertIs(loose_holds(a, a, EVEN, 0, pairs, paper), True)
        for pairs in (((0, 0), (2, 2), (1, 1)), ((1, 1), (0, 0), (2, 2)), ((0, 0), (1, 1), (1, 1)),
                      ((0, 0), (1, 1), (2, 1)), ((0, 0), (1, 1), (1, 2)), ((0, 0), (1, 1), (2, 3)),
                      ((0, 0), (1, 1), (3, 2)), ((0, 0), (1, 1), (2, -1)), ((-1, 0), (1, 1), (2, 2)),
                      ((0, 0), (1, 1), (2, HUGE)), ((0, 0), (1, 1)), ((0, 0), (1, 1), (2, 2), (2, 2)),
                      [(0, 0), (1, 1), (2, 2)], ((0, 0), [1, 1], (2, 2)), ((0, 0), (1, 1, 1), (2, 2)),
                      ((0, 0), (1,), (2, 2)), ((0, 0), None, (2, 2)), (0, 1, 2)):
            self.assertIs(loose_holds(a, a, EVEN, 0, pairs, paper), False, pairs)

    def test_parents_that_are_not_paired(self):
        a = read_forest("a(b),a(b)")
        paper = loose_paper(a, a, EVEN)
        self.assertIs(loose_holds(a, a, EVEN, 0, ((0, 2), (1, 3), (2, 0), (3, 1)), paper), True)
        self.assertIs(loose_holds(a, a, EVEN, 0, ((0, 0), (1, 3), (2, 2), (3, 1)), paper), False)
        free = loose_paper(a, a, FREE)
        self.assertIs(loose_holds(a, a, FREE, 0, ((0, 0), (1, 1)), free), True)
        self.assertIs(loose_holds(a, a, FREE, 0, ((1, 1),), free), False)
        self.assertIs(loose_holds(a, a, FREE, 0, ((0, 1),), free), False)
        self.assertIs(loose_holds(a, a, FREE, 0, ((1, 0),), free), False)

    def test_any_value(self):
        n, pairs = loose_distance(TREE, OTHER, EVEN), loose_pairs(TREE, OTHER, EVEN)
        paper = loose_paper(TREE, OTHER, EVEN)
        for value in NOTHINGS + (nested(60), {}):
            self.assertIs(loose_holds(TREE, OTHER, EVEN, n, value, paper), False)
            if value != n or value is True:
                self.assertIs(loose_holds(TREE, OTHER, EVEN, value, pairs, paper), False)
        for value in spoilt(pairs):
            self.assertIs(loose_holds(TREE, OTHER, EVEN, n, value, paper), False, value)


class Errors(unittest.TestCase):
    def test_in_order(self):
        calls = (loose_distance, loose_pairs, loose_paper, lambda a, b, prices: loose_holds(a, b, prices, 0, (), ()),
                 lambda a, b, prices: loose_holds(a, b, prices, None, None, None))
        for call in calls:
            for value in NOTHINGS:
                for args, error, wrong in (
                        ((value, None, None), InvalidForest, 0), ((TREE, value, None), InvalidForest, 1),
                        ((TREE, OTHER, value), InvalidPrices, 2)):
                    with self.assertRaises(error) as caught:
                        call(*args)
                    self.assertIs(caught.exception.value, args[wrong])
