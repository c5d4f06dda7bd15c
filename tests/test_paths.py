"""Promise 7: paths."""

import unittest

from graftbook.errors import InvalidForest, InvalidNumber, InvalidPath
from graftbook.foresttext import forest_text, read_forest
from graftbook.paths import node_at, path_of, replaced, tree_at, word_at
from tests.samples import FULL, HUGE, NOTHINGS, slow_nodes

TREE = read_forest("a(b,c(d)),e")
NO_PATHS = ((), [0], None, True, 0, "0", (True,), (False,), (0, True), (0, [0]), (-1,), (0, -1), ("a",),
            ((0,),), (None,), (0, None), [], (HUGE,), (-HUGE,), (2,), (0, 2), (0, 0, 0), (1, 0),
            (0, 1, 1), (0, 1, 0, 0))


class Paths(unittest.TestCase):
    def test_ordinary(self):
        self.assertEqual([path_of(TREE, i) for i in range(5)], [(0,), (0, 0), (0, 1), (0, 1, 0), (1,)])
        self.assertEqual(node_at(TREE, (0, 1, 0)), 3)
        self.assertEqual(tree_at(TREE, (0, 1)), ("c", (("d", ()),)))
        self.assertEqual(tree_at(TREE, (1,)), ("e", ()))
        self.assertEqual(word_at(TREE, (0, 1, 0)), "d")
        self.assertEqual(forest_text(replaced(TREE, (0, 0), read_forest("x,y(z)"))), "a(x,y(z),c(d)),e")
        self.assertEqual(forest_text(replaced(TREE, (0,), ())), "e")
        self.assertEqual(forest_text(replaced(TREE, (0, 1, 0), ())), "a(b,c),e")
        self.assertEqual(replaced(read_forest("a"), (0,), ()), ())

    def test_by_definition(self):
        for a in FULL:
            for i, (word, path) in enumerate(slow_nodes(a)):
                self.assertEqual(path_of(a, i), path)
                self.assertEqual(node_at(a, path), i)
                self.assertEqual(word_at(a, path), word)
                self.assertEqual(tree_at(a, path)[0], word)
                self.assertEqual(replaced(a, path, (tree_at(a, path),)), a)

    def test_numbers_of_no_node(self):
        for wrong in (-1, 5, HUGE):
            with self.assertRaises(InvalidNumber) as caught:
                path_of(TREE, wrong)
            self.assertEqual(caught.exception.value, wrong)
        with self.assertRaises(InvalidNumber):
            path_of((), 0)

    def test_nothing_at_a_path(self):
        for path in NO_PATHS:
            for call in (lambda p: node_at(TREE, p), lambda p: tree_at(TREE, p),
                         lambda p: word_at(TREE, p), lambda p: replaced(TREE, p, TREE)):
                with self.assertRaises(InvalidPath) as caught:
                    call(path)
                self.assertIs(caught.exception.path, path)
        for function in (node_at, tree_at, word_at):
            with self.assertRaises(InvalidPath):
                function((), (0,))

    def test_forests_ahead_of_paths_and_numbers(self):
        for value in NOTHINGS:
            for call in (lambda a: path_of(a, -1), lambda a: node_at(a, None), lambda a: tree_at(a, None),
                         lambda a: word_at(a, None), lambda a: replaced(a, None, None),
                         lambda a: replaced(TREE, None, a)):
                with self.assertRaises(InvalidForest) as caught:
                    call(value)
                self.assertIs(caught.exception.value, value)
