"""Promise 31: what leads from plot to plot."""

import random
import unittest
from itertools import combinations, permutations

from graftbook.between import kept_marks, plot_distance, script_between
from graftbook.errors import InvalidPlot
from graftbook.plots import is_plot, marks_of
from graftbook.plottext import read_plot
from graftbook.scripts import run
from tests.boards import Board, all_deeds
from tests.samples import FULL_PLOT_TEXTS, NO_PLOTS, random_plot, random_plots, shapes

PLOT = read_plot("1a(2b,3c),4d")


def slow_kept(t, u):
    """The kept marks, by all parts of the rows that both have."""
    left, right = Board(t), Board(u)
    kept = []
    for parent in left.rows:
        if parent in right.rows:
            row = left.rows[parent]
            ways = []
            for size in range(len(row) + 1):
                for places in combinations(range(len(row)), size):
                    part = [row[place] for place in places]
                    if [mark for mark in right.rows[parent] if mark in part] == part:
                        ways.append((-size, places))
            kept += [row[place] for place in min(ways)[1]]
    return tuple(sorted(kept))


def slow_between(t, u):
    left, right = Board(t), Board(u)
    kept = slow_kept(t, u)
    places = {}
    for parent, row in right.rows.items():
        for behind, mark in zip([0] + row, row):
            places[mark] = (parent, behind)
    script = [("word", m, right.words[m]) for m in right.words if left.words.get(m, right.words[m]) != right.words[m]]
    for m in right.words:
        if m not in left.words:
            script.append(("add", m, right.words[m]) + places[m])
        elif m not in kept:
            script.append(("move", m) + places[m])
    return tuple(script + [("drop", m) for m in reversed(list(left.words)) if m not in right.words])


def all_plots(marks, words):
    """All plots with some of these marks."""
    for size in range(len(marks) + 1):
        for shape in shapes(size):
            for some in permutations(marks, size):
                yield from worded(shape, some, words)


def worded(shape, marks, words):
    if not shape:
        yield ()
        return
    def put(row, left, told):
        return tuple((left.pop(0), told.pop(0), put(children, left, told)) for _, children in row)

    for number in range(len(words) ** len(marks)):
        told = [words[number // len(words) ** k % len(words)] for k in range(len(marks))]
        yield put(shape, list(marks), told)


def steps_from(t, marks, words, most):
    """For each plot that up to so many deeds lead to their least number, found deed by deed."""
    found, level = {t: 0}, [t]
    deeds = [deed for deed in all_deeds(marks)]
    deeds += [tuple(word if part == "x" else part for part in deed) for deed in deeds for word in words]
    deeds = sorted(set(deed for deed in deeds if "x" not in deed), key=str)
    for steps in range(1, most + 1):
        further = []
        for plot in level:
            for deed in deeds:
                board = Board(plot)
                if board.refusal(deed) is None:
                    board.run(deed)
                    if board.plot() not in found:
                        found[board.plot()] = steps
                        further.append(board.plot())
        level = further
    return found


class ScriptBetween(unittest.TestCase):
    def between(self, text, other):
        return script_between(read_plot(text), read_plot(other))

    def test_ordinary(self):
        self.assertEqual(self.between("1a(2b,3c),4d", "3c,1x(5e,2y)"), (
            ("word", 1, "x"), ("word", 2, "y"), ("move", 3, 0, 0), ("add", 5, "e", 1, 0), ("drop", 4)))
        self.assertEqual(self.between("1a(2b)", "2b(1a)"), (("move", 2, 0, 0), ("move", 1, 2, 0)))
        # Words by u's preorder, drops by t's from behind.
        self.assertEqual(self.between("1a,2b,3c", "3x,1x,2x")[:3], (("word", 3, "x"), ("word", 1, "x"), ("word", 2, "x")))
        self.assertEqual(self.between("1a(2b(3c),4d),5e", ""), tuple(("drop", m) for m in (5, 4, 3, 2, 1)))
        self.assertEqual(self.between("", "5e(4d),1a"), (
            ("add", 5, "e", 0, 0), ("add", 4, "d", 5, 0), ("add", 1, "a", 0, 5)))
        # A mark whose parent goes: it must move, also where it looks as before.
        self.assertEqual(self.between("1a(2b(3c))", "4x(2b(3c))"), (
            ("add", 4, "x", 0, 0), ("move", 2, 4, 0), ("drop", 1)))

    def test_empty(self):
        self.assertEqual(script_between((), ()), ())
        self.assertEqual(plot_distance((), ()), 0)
        self.assertEqual(kept_marks((), ()), ())
        self.assertEqual(script_between(PLOT, PLOT), ())
        self.assertEqual(kept_marks(PLOT, ()), ())

    def test_by_definition(self):
        rng = random.Random(241)
        for t in random_plots(241, 400, 7):
            u = random_plot(rng, rng.randint(0, 7), "ab", 5, range(1, 10))
            self.assertEqual(kept_marks(t, u), slow_kept(t, u))
            self.assertEqual(script_between(t, u), slow_between(t, u))
            self.assertEqual(plot_distance(t, u), len(slow_between(t, u)))

    def test_rows_in_other_orders(self):
        rng = random.Random(242)
        for size in range(2, 9):
            for _ in range(40):
                row, other = (rng.sample(range(1, 10), size) for _ in range(2))
                t, u = (((10, "a", tuple((m, "b", ()) for m in marks)),) for marks in (row, other))
                self.assertEqual(kept_marks(t, u), slow_kept(t, u))
                self.assertEqual(script_between(t, u), slow_between(t, u))
                self.assertEqual(run(t, script_between(t, u)), u)

    def test_leads_there(self):
        rng = random.Random(243)
        for t in random_plots(243, 400, 12):
            u = random_plot(rng, rng.randint(0, 12), "abc", 8, range(1, 16))
            self.assertEqual(run(t, script_between(t, u)), u)
            self.assertEqual(run(u, script_between(u, t)), t)

    def test_full_size(self):
        plots = [read_plot(text) for text in FULL_PLOT_TEXTS]
        for t in plots:
            for u in plots + [()]:
                script = script_between(t, u)
                self.assertLessEqual(len(script), 30)
                self.assertEqual(run(t, script), u)
                self.assertEqual(plot_distance(u, t), len(script))

    def test_least(self):
        marks, words = (1, 2), "ab"
        plots = list(all_plots(marks, words))
        for t in plots:
            found = steps_from(t, marks, words, 4)
            self.assertEqual(len(found), len(plots))
            for u in plots:
                self.assertEqual(plot_distance(t, u), found[u], (t, u))

    def test_least_of_three(self):
        plots = list(all_plots((1, 2, 3), "a"))
        for t in (read_plot("1a(2a(3a))"), read_plot("3a,1a,2a"), read_plot("2a(1a,3a)"), read_plot("3a(1a),2a"), ()):
            found = steps_from(t, (1, 2, 3), "a", 4)
            for u in plots:
                steps = plot_distance(t, u)
                self.assertEqual(found.get(u, 5), min(steps, 5), (t, u))


class PlotDistance(unittest.TestCase):
    def test_what_holds(self):
        rng = random.Random(244)
        for t in random_plots(244, 150, 6):
            u, v = (random_plot(rng, rng.randint(0, 6), "ab", 4, range(1, 9)) for _ in range(2))
            self.assertEqual(plot_distance(t, u), plot_distance(u, t))
            self.assertEqual(plot_distance(t, u) == 0, t == u)
            self.assertLessEqual(plot_distance(t, u), plot_distance(t, v) + plot_distance(v, u))


class KeptMarks(unittest.TestCase):
    def kept(self, text, other):
        return kept_marks(read_plot(text), read_plot(other))

    def test_ordinary(self):
        self.assertEqual(self.kept("1a(2b,3c),4d", "1x(3c,5e),4d"), (1, 3, 4))
        # Of several longest rows the first by the places in t's row, not by the marks or by u's row.
        self.assertEqual(self.kept("1a,2b", "2b,1a"), (1,))
        self.assertEqual(self.kept("2b,1a", "1a,2b"), (2,))
        self.assertEqual(self.kept("4d,1a,3c,2b", "3c,2b,4d,1a"), (1, 4))
        self.assertEqual(self.kept("3c,1a,2b", "2b,3c,1a"), (1, 3))
        self.assertEqual(self.kept("9a(3c,2b,1a)", "9a(1a,2b,3c)"), (3, 9))
        # A mark that one plot alone has stands between, and counts as a place.
        self.assertEqual(self.kept("1a,7x,2b,3c", "3c,8x,1a,9x,2b"), (1, 2))
        # The same place among others with another parent is none.
        self.assertEqual(self.kept("1a(2b),3c", "1a,3c(2b)"), (1, 3))
        self.assertEqual(self.kept("1a(2b)", "2b"), ())
        # A parent that moves takes what stands below along.
        self.assertEqual(self.kept("1a(2b(3c,4d))", "1a,2b(3c,4d)"), (1, 3, 4))


class Errors(unittest.TestCase):
    def test_no_plots_from_the_left(self):
        for call in (script_between, plot_distance, kept_marks):
            for value in NO_PLOTS:
                for t, u in ((value, PLOT), (value, None), (PLOT, value), ((), value)):
                    self.assertFalse(is_plot(value))
                    with self.assertRaises(InvalidPlot) as caught:
                        call(t, u)
                    self.assertIs(caught.exception.value, value)
        self.assertEqual(marks_of(PLOT), (1, 2, 3, 4))
