"""Promise 20: forests that are alike without order."""

import math
import random
import unittest
from itertools import permutations, product

from graftbook.errors import InvalidForest, Undefined
from graftbook.forests import forest_below, forest_turned
from graftbook.foresttext import forest_text, read_forest
from graftbook.likeness import alike, pairing_holds, pairing_of, sorted_form, ways_alike
from tests.samples import (FULL, HUGE, NOTHINGS, random_forest, random_pairs, relabelled, shapes, slow_parents,
                           slow_words, spoilt)

TREE = read_forest("a(c(d),b),a")
OTHER = read_forest("a,a(b,c(d))")


def shuffled(rng, a):
    row = [(word, shuffled(rng, children)) for word, children in a]
    rng.shuffle(row)
    return tuple(row)


def all_orders(a):
    """All forests that are alike without order to a, some of them several times."""
    rows = product(*[[(word, below) for below in all_orders(children)] for word, children in a])
    return [order for row in rows for order in permutations(row)]


def slow_pairings(a, b):
    """All pairings by the words of the document."""
    words, others = slow_words(a), slow_words(b)
    parents, other_parents = slow_parents(a), slow_parents(b)
    if len(words) != len(others):
        return []
    found = []
    for pairing in permutations(range(len(words))):
        above = [pairing[k] if k >= 0 else -1 for k in parents]
        if all(words[i] == others[j] and other_parents[j] == above[i] for i, j in enumerate(pairing)):
            found.append(pairing)
    return found


def is_sorted(a):
    for tree, right in zip(a, a[1:]):
        if tree != right and not forest_below((tree,), (right,)):
            return False
    return all(is_sorted(children) for _, children in a)


class SortedForm(unittest.TestCase):
    def test_ordinary(self):
        self.assertEqual(forest_text(sorted_form(TREE)), "a,a(b,c(d))")
        self.assertEqual(forest_text(sorted_form(OTHER)), "a,a(b,c(d))")
        self.assertEqual(sorted_form(()), ())

    def test_by_size_then_words_then_parents(self):
        self.assertEqual(forest_text(sorted_form(read_forest("a(a),b"))), "b,a(a)")
        self.assertEqual(forest_text(sorted_form(read_forest("b,a,ab"))), "a,ab,b")
        self.assertEqual(forest_text(sorted_form(read_forest("b(a),a(c),a(b)"))), "a(b),a(c),b(a)")
        # Words alike: the one whose parents come first by Python's order.
        self.assertEqual(forest_text(sorted_form(read_forest("a(a(a)),a(a,a)"))), "a(a,a),a(a(a))")

    def test_as_they_are_in_the_result(self):
        # Unsorted, the first tree's words come behind those of the second; sorted, ahead.
        a = read_forest("a(c,a),a(b,c)")
        self.assertEqual(forest_text(sorted_form(a)), "a(a,c),a(b,c)")
        b = read_forest("a(b,c),a(c,a)")
        self.assertEqual(forest_text(sorted_form(b)), "a(a,c),a(b,c)")

    def test_equal_trees_side_by_side(self):
        self.assertEqual(forest_text(sorted_form(read_forest("a(b),c,a(b),c"))), "c,c,a(b),a(b)")
        self.assertEqual(forest_text(sorted_form(read_forest("a(b,c),d,a(c,b)"))), "d,a(b,c),a(b,c)")

    def test_by_definition(self):
        rng = random.Random(81)
        for size in range(13):
            for _ in range(20):
                a = random_forest(rng, size, "ab")
                form = sorted_form(a)
                self.assertTrue(is_sorted(form))
                self.assertEqual(sorted_form(form), form)
                self.assertEqual(sorted_form(shuffled(rng, a)), form)
                self.assertEqual(sorted_form(forest_turned(a)), form)

    def test_one_of_all_orders(self):
        for a in shapes(5):
            orders = all_orders(a)
            self.assertIn(sorted_form(a), orders)
            self.assertEqual(len({sorted_form(order) for order in orders}), 1)

    def test_errors(self):
        for value in NOTHINGS:
            for call in (sorted_form, ways_alike):
                with self.assertRaises(InvalidForest) as caught:
                    call(value)
                self.assertIs(caught.exception.value, value)


class Alike(unittest.TestCase):
    def test_ordinary(self):
        self.assertIs(alike(TREE, OTHER), True)
        self.assertIs(alike((), ()), True)
        self.assertIs(alike(TREE, ()), False)
        self.assertIs(alike((), TREE), False)
        self.assertIs(alike(read_forest("a(b),c"), read_forest("a,c(b)")), False)
        self.assertIs(alike(read_forest("a,a"), read_forest("a(a)")), False)
        self.assertIs(alike(read_forest("a,a,b"), read_forest("a,b,b")), False)
        self.assertIs(alike(read_forest("a(b(c),d)"), read_forest("a(d,b(c))")), True)

    def test_by_definition(self):
        forests = [relabelled(a, words) for size in range(4) for a in shapes(size)
                   for words in product("ab", repeat=size)]
        for a in forests:
            orders = all_orders(a)
            for b in forests:
                self.assertIs(alike(a, b), b in orders)

    def test_full_size(self):
        rng = random.Random(82)
        for a, b in product(FULL, FULL):
            self.assertIs(alike(a, shuffled(rng, b)), a == b)


class Pairing(unittest.TestCase):
    def test_ordinary(self):
        self.assertEqual(pairing_of(TREE, OTHER), (1, 3, 4, 2, 0))
        self.assertIs(pairing_holds(TREE, OTHER, (1, 3, 4, 2, 0)), True)
        self.assertEqual(pairing_of((), ()), ())
        self.assertIs(pairing_holds((), (), ()), True)

    def test_not_alike(self):
        for a, b in ((TREE, ()), ((), TREE), (read_forest("a(b)"), read_forest("b(a)")),
                     (read_forest("a,a"), read_forest("a(a)")), (read_forest("a"), read_forest("a,a"))):
            with self.assertRaises(Undefined) as caught:
                pairing_of(a, b)
            self.assertEqual(caught.exception.what, "pairing")

    def test_made_ones(self):
        rng = random.Random(83)
        for size in range(13):
            for _ in range(20):
                a = random_forest(rng, size, "ab")
                b = shuffled(rng, a)
                found = pairing_of(a, b)
                self.assertIs(pairing_holds(a, b, found), True)
                self.assertEqual(pairing_of(a, b), found)
                if size < 6:
                    self.assertIn(found, slow_pairings(a, b))

    def test_by_definition(self):
        rng = random.Random(84)
        for k, (a, b) in enumerate(random_pairs(84, 60, 5)):
            if k % 2:
                b = shuffled(rng, a)
            right = slow_pairings(a, b)
            self.assertEqual(alike(a, b), right != [])
            for pairing in permutations(range(len(slow_words(a)))):
                self.assertIs(pairing_holds(a, b, pairing), pairing in right)

    def test_each_changed_number(self):
        a = read_forest("a(b,b),a(b,b)")
        right = slow_pairings(a, a)
        self.assertEqual(len(right), 8)
        for pairing in product(range(-1, 7), repeat=6):
            if len(set(pairing)) > 4:
                self.assertIs(pairing_holds(a, a, pairing), pairing in right)

    def test_any_value(self):
        good = pairing_of(TREE, OTHER)
        for value in NOTHINGS + ((1, 3, 4, 2), (1, 3, 4, 2, 0, 0), (1, 3, 4, 2, False), (True, 3, 4, 2, 0),
                                 [1, 3, 4, 2, 0], (1, 3, 4, 2, HUGE), (1, 3, 4, 2, -5), (1, 3, 4, 2, None),
                                 (1, 1, 4, 2, 0), ((0, 1), (1, 3)), (), "13420"):
            self.assertIs(pairing_holds(TREE, OTHER, value), False, value)
        for value in spoilt(good):
            self.assertIs(pairing_holds(TREE, OTHER, value), False, value)
        self.assertIs(pairing_holds(read_forest("a"), read_forest("a"), (0,)), True)
        self.assertIs(pairing_holds(read_forest("a"), read_forest("a"), (False,)), False)
        self.assertIs(pairing_holds(read_forest("a"), read_forest("a,a"), (0,)), False)
        self.assertIs(pairing_holds(read_forest("a,a"), read_forest("a"), (0, 0)), False)

    def test_errors_in_order(self):
        for value in NOTHINGS:
            for call in (alike, pairing_of, lambda a, b: pairing_holds(a, b, None)):
                for a, b, wrong in ((value, None, 0), (TREE, value, 1)):
                    with self.assertRaises(InvalidForest) as caught:
                        call(a, b)
                    self.assertIs(caught.exception.value, (a, b)[wrong])


class Ways(unittest.TestCase):
    def test_ordinary(self):
        self.assertEqual(ways_alike(()), 1)
        self.assertEqual(ways_alike(TREE), 1)
        self.assertEqual(ways_alike(read_forest("a,a")), 2)
        self.assertEqual(ways_alike(read_forest("a(b,c),d,a(c,b)")), 2)
        self.assertEqual(ways_alike(read_forest("a(b,b),a(b,b)")), 8)
        self.assertEqual(ways_alike(read_forest("b,a,b,a,b")), 12)

    def test_by_definition(self):
        for size in range(6):
            for a in shapes(size):
                self.assertEqual(ways_alike(a), len(slow_pairings(a, a)))
        for a, b in random_pairs(85, 60, 6):
            self.assertEqual(ways_alike(a), len(slow_pairings(a, a)))
            self.assertEqual(ways_alike(b), len(slow_pairings(b, b)))

    def test_full_size(self):
        self.assertEqual(ways_alike(read_forest(",".join("a" * 12))), math.factorial(12))
        self.assertEqual(ways_alike(read_forest("a(" + ",".join("a" * 11) + ")")), math.factorial(11))
        self.assertEqual(ways_alike(read_forest("a(a),a(a),a(a),a(a),a(a),a(a)")), math.factorial(6))
        self.assertEqual(ways_alike(read_forest("a(a,a),a(a,a),a(a,a),a(a,a)")), 24 * 2 ** 4)
        for a in FULL:
            self.assertEqual(ways_alike(a), 1)
