"""Promise 6: numbers of nodes."""

import unittest

from graftbook.errors import InvalidForest, InvalidNumber, Undefined
from graftbook.forests import forest_words
from graftbook.foresttext import forest_text, read_forest
from graftbook.numbers import first_leaves, forest_of, is_over, parents_of, post_numbers, sizes_of
from tests.samples import FULL, HUGE, NOTHINGS, random_pairs, shapes, slow_nodes, slow_over

TREE = read_forest("a(b,c(d)),e")


def slow_posts(a, start=0):
    """The preorder numbers in the sequence of postorder."""
    found = []
    number = start
    for _, children in a:
        below = slow_posts(children, number + 1)
        found.extend(below + [number])
        number += len(below) + 1
    return found


class OfNodes(unittest.TestCase):
    def test_ordinary(self):
        self.assertEqual(parents_of(TREE), (-1, 0, 0, 2, -1))
        self.assertEqual(sizes_of(TREE), (4, 1, 2, 1, 1))
        self.assertEqual(post_numbers(TREE), (3, 0, 2, 1, 4))
        self.assertEqual(first_leaves(TREE), (0, 1, 1, 0, 4))

    def test_empty(self):
        for function in (parents_of, sizes_of, post_numbers, first_leaves):
            self.assertEqual(function(()), ())

    def test_by_definition(self):
        for a in list(FULL) + [a for size in range(5) for a in shapes(size)]:
            nodes = range(len(slow_nodes(a)))
            below = [[k for k in nodes if k == i or slow_over(a, i, k)] for i in nodes]
            order = slow_posts(a)
            self.assertEqual(sizes_of(a), tuple(len(row) for row in below))
            self.assertEqual(post_numbers(a), tuple(order.index(i) for i in nodes))
            leaves = tuple(min(order.index(k) for k in below[i]) for i in order)
            self.assertEqual(first_leaves(a), leaves)
            for i in nodes:
                over = [k for k in nodes if slow_over(a, k, i)]
                self.assertEqual(parents_of(a)[i], max(over, default=-1))

    def test_errors(self):
        for function in (parents_of, sizes_of, post_numbers, first_leaves):
            for value in NOTHINGS:
                with self.assertRaises(InvalidForest) as caught:
                    function(value)
                self.assertIs(caught.exception.value, value)


class ForestOf(unittest.TestCase):
    def test_ordinary(self):
        self.assertEqual(forest_of(("a", "b", "c", "d", "e"), (-1, 0, 0, 2, -1)), TREE)
        self.assertEqual(forest_of(["a", "b"], [-1, 0]), read_forest("a(b)"))
        self.assertEqual(forest_of(["a", "b"], (-1, -1)), read_forest("a,b"))
        self.assertEqual(forest_of((), []), ())

    def test_leads_back(self):
        for a in FULL:
            self.assertEqual(forest_of(forest_words(a), parents_of(a)), a)
        for pair in random_pairs(1, 100, 12):
            for a in pair:
                self.assertEqual(forest_of(list(forest_words(a)), list(parents_of(a))), a)

    def test_any_depth(self):
        deep = forest_of(["a"] * 12, range_list(-1, 11))
        self.assertEqual(forest_text(deep), "a(" * 11 + "a" + ")" * 11)

    def test_just_those_that_are(self):
        for size in range(5):
            made = {parents_of(a) for a in shapes(size)}
            for parents in all_rows(size, range(-2, size + 1)):
                words = ["a"] * size
                if tuple(parents) in made:
                    self.assertEqual(parents_of(forest_of(words, parents)), tuple(parents))
                else:
                    self.undefined(words, parents)

    def test_undefined(self):
        self.undefined(("a",), ())
        self.undefined((), (-1,))
        self.undefined(("a", "b"), (-1,))
        self.undefined(("a",), (0,))
        self.undefined(("a",), (-2,))
        self.undefined(("a", "b"), (-1, 1))
        self.undefined(("a", "b", "c", "d"), (-1, 0, -1, 1))
        self.undefined(("a",), (HUGE,))

    def test_values_of_wrong_kinds(self):
        for value in (None, True, 0, "a", (None,), (True,), ([],), ((),), ("A",), ("",)):
            self.undefined(value, (-1,))
        for value in (None, True, -1, "a", (None,), (False,), ("a",), ([],), ((-1,),)):
            self.undefined(("a",), value)
        self.undefined(("a", "b"), (-1, False))

    def undefined(self, words, parents):
        with self.assertRaises(Undefined) as caught:
            forest_of(words, parents)
        self.assertEqual(caught.exception.what, "forest")


def range_list(start, stop):
    return list(range(start, stop))


def all_rows(length, values):
    if length == 0:
        return [[]]
    return [row + [value] for row in all_rows(length - 1, values) for value in values]


class IsOver(unittest.TestCase):
    def test_by_definition(self):
        for a in FULL + (TREE,):
            for i in range(len(slow_nodes(a))):
                for k in range(len(slow_nodes(a))):
                    self.assertIs(is_over(a, i, k), slow_over(a, i, k))

    def test_numbers_of_no_node(self):
        for wrong in (-1, 5, 6, HUGE, -HUGE):
            for i, k in ((wrong, 0), (0, wrong), (wrong, 7), (wrong, wrong)):
                with self.assertRaises(InvalidNumber) as caught:
                    is_over(TREE, i, k)
                self.assertEqual(caught.exception.value, wrong)
        with self.assertRaises(InvalidNumber) as caught:
            is_over((), 0, 0)
        self.assertEqual(caught.exception.value, 0)

    def test_forest_ahead_of_numbers(self):
        for value in NOTHINGS:
            with self.assertRaises(InvalidForest) as caught:
                is_over(value, -1, -1)
            self.assertIs(caught.exception.value, value)
