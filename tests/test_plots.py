"""Promise 25: plots."""

import random
import unittest

from graftbook.errors import InvalidForest, InvalidPlot, Undefined
from graftbook.foresttext import forest_text, read_forest
from graftbook.plots import bare, is_plot, marked, marks_of, row_of, spot_at
from graftbook.plottext import read_plot
from tests.samples import (FULL, FULL_PLOT_TEXTS, HUGE, NO_PLOTS, NOTHINGS, nested, random_forest, random_plots,
                           slow_words, spoilt)

PLOT = read_plot("5a(2b,9c(1d)),7e")


def slow_spots(t, parent=0):
    """The spots in preorder, each as (mark, word, parent, behind)."""
    found = []
    behind = 0
    for mark, word, children in t:
        found.append((mark, word, parent, behind))
        found.extend(slow_spots(children, mark))
        behind = mark
    return found


class IsPlot(unittest.TestCase):
    def test_ordinary(self):
        self.assertEqual(PLOT, ((5, "a", ((2, "b", ()), (9, "c", ((1, "d", ()),)))), (7, "e", ())))
        for value in (PLOT, (), ((1, "a", ()),), ((HUGE, "abcdefgh", ()),), ((2, "a", ()), (1, "a", ()))):
            self.assertIs(is_plot(value), True)
        for text in FULL_PLOT_TEXTS:
            self.assertIs(is_plot(read_plot(text)), True)

    def test_sizes_do_not_matter(self):
        self.assertIs(is_plot(tuple((k, "a", ()) for k in range(1, 200))), True)
        deep = ()
        for k in range(1, 30):
            deep = ((k, "a", deep),)
        self.assertIs(is_plot(deep), True)

    def test_equal_marks_at_any_depth(self):
        for value in (((1, "a", ()), (1, "b", ())), ((1, "a", ((1, "b", ()),)),),
                      ((1, "a", ((2, "b", ()),)), (2, "c", ())), ((1, "a", ((2, "b", ()), (3, "c", ((2, "d", ()),)))),),
                      ((1, "a", ((2, "b", ()),)), (3, "c", ((2, "b", ()),)))):
            self.assertIs(is_plot(value), False, value)

    def test_any_value(self):
        for value in NO_PLOTS + (nested(60), {}, FULL[0]):
            self.assertIs(is_plot(value), False)
        for value in spoilt(PLOT):
            self.assertIs(is_plot(value), False, value)


class Parts(unittest.TestCase):
    def test_ordinary(self):
        self.assertEqual(marks_of(PLOT), (5, 2, 9, 1, 7))
        self.assertEqual(forest_text(bare(PLOT)), "a(b,c(d)),e")
        self.assertEqual(spot_at(PLOT, 5), ("a", 0, 0))
        self.assertEqual(spot_at(PLOT, 2), ("b", 5, 0))
        self.assertEqual(spot_at(PLOT, 9), ("c", 5, 2))
        self.assertEqual(spot_at(PLOT, 1), ("d", 9, 0))
        self.assertEqual(spot_at(PLOT, 7), ("e", 0, 5))
        self.assertEqual([row_of(PLOT, m) for m in (0, 5, 2, 9, 1, 7)], [(5, 7), (2, 9), (), (1,), (), ()])

    def test_empty(self):
        self.assertEqual(marks_of(()), ())
        self.assertEqual(bare(()), ())
        self.assertEqual(row_of((), 0), ())
        self.assertEqual(marked((), ()), ())

    def test_by_definition(self):
        for t in list(random_plots(131, 150, 12)) + [read_plot(text) for text in FULL_PLOT_TEXTS]:
            spots = slow_spots(t)
            self.assertEqual(marks_of(t), tuple(mark for mark, _, _, _ in spots))
            self.assertEqual(slow_words(bare(t)), [word for _, word, _, _ in spots])
            self.assertEqual(marked(bare(t), marks_of(t)), t)
            self.assertEqual(row_of(t, 0), tuple(mark for mark, _, _ in t))
            for mark, word, parent, behind in spots:
                self.assertEqual(spot_at(t, mark), (word, parent, behind))
                self.assertEqual(row_of(t, mark), tuple(m for m, _, above, _ in spots if above == mark))

    def test_no_mark(self):
        for m in (3, -1, -5, HUGE, 50, True, None, "5", (), []):
            for call in (spot_at, row_of):
                for t in (PLOT, ()):
                    with self.assertRaises(Undefined) as caught:
                        call(t, m)
                    self.assertEqual(caught.exception.what, "mark")
        for t in (PLOT, ()):
            with self.assertRaises(Undefined) as caught:
                spot_at(t, 0)
            self.assertEqual(caught.exception.what, "mark")

    def test_errors(self):
        for value in NO_PLOTS:
            for call in (marks_of, bare, lambda t: spot_at(t, 3), lambda t: row_of(t, 0), lambda t: row_of(t, -1)):
                with self.assertRaises(InvalidPlot) as caught:
                    call(value)
                self.assertIs(caught.exception.value, value)


class Marked(unittest.TestCase):
    def test_ordinary(self):
        self.assertEqual(marked(read_forest("a(b,c(d)),e"), [5, 2, 9, 1, 7]), PLOT)
        self.assertEqual(marked(read_forest("a(b,c(d)),e"), (5, 2, 9, 1, 7)), PLOT)
        self.assertEqual(marked(read_forest("a"), [HUGE]), ((HUGE, "a", ()),))

    def test_random(self):
        rng = random.Random(132)
        for size in range(13):
            a = random_forest(rng, size)
            marks = rng.sample(range(1, 100), size)
            before = list(marks)
            t = marked(a, marks)
            self.assertEqual(marks, before)
            self.assertIs(is_plot(t), True)
            self.assertEqual(bare(t), a)
            self.assertEqual(marks_of(t), tuple(marks))

    def test_no_marks(self):
        a = read_forest("a(b)")
        for marks in ((), (1,), (1, 2, 3), (1, 1), (0, 1), (1, 0), (1, -1), (-1, 1), (HUGE, HUGE), (1, True),
                      (False, 1), (1, None), ("1", "2"), (1, "2"), (1, (2,)), (1, []), ((), ())):
            for kind in (list, tuple):
                with self.assertRaises(Undefined) as caught:
                    marked(a, kind(marks))
                self.assertEqual(caught.exception.what, "marks")
        for marks in (None, 1, True, "12", "", "ab"):
            with self.assertRaises(Undefined):
                marked(a, marks)
        with self.assertRaises(Undefined):
            marked((), (1,))

    def test_forests_ahead_of_marks(self):
        for value in NOTHINGS:
            with self.assertRaises(InvalidForest) as caught:
                marked(value, (0, 0))
            self.assertIs(caught.exception.value, value)
