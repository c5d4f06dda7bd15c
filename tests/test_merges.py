"""Promises 28 and 29: deeds that are free, scripts that agree, merges, corners, clashes."""

import random
import unittest

from graftbook.errors import Clash, InvalidPlot, InvalidScript, Refusal
from graftbook.merges import agree, are_free, clash_of, corners, far_apart, is_square, merged
from graftbook.plottext import plot_text, read_plot
from graftbook.scripts import run
from tests.boards import (
    NO_DEEDS, random_deed, random_script, runs, slow_both, slow_clash, slow_corners, spoilt_scripts,
)
from tests.samples import FULL_PLOT_TEXTS, HUGE, NO_PLOTS, NOTHINGS, random_plots

PLOT = read_plot("1a(2b,3c)")
MARKS = (1, 2, 3, 4, 5)

X = ("word", 2, "x")
Y = ("word", 2, "y")


class AreFree(unittest.TestCase):
    def test_ordinary(self):
        for d, e, free in (
                (X, ("move", 3, 0, 0), True), (X, X, True), (X, ("word", 2, "b"), False), (X, Y, False),
                (X, ("drop", 2), False), (("drop", 2), ("drop", 3), True), (("drop", 2), ("drop", 2), False),
                # Not at the plot, the one or the other.
                (X, ("drop", 9), False), (("drop", 1), X, False), (("drop", 9), ("drop", 9), False),
                # Only behind the other one.
                (("add", 4, "d", 1, 0), ("word", 4, "e"), False), (("drop", 2), ("move", 3, 1, 2), False),
                # Both orders, two plots.
                (("add", 4, "d", 1, 0), ("add", 5, "d", 1, 0), False), (("add", 4, "d", 1, 2), ("move", 3, 1, 2), False),
                (("move", 2, 0, 0), ("move", 3, 0, 0), False), (("move", 2, 0, 0), ("move", 3, 0, 1), True),
                (("move", 2, 3, 0), ("move", 3, 2, 0), False), (("move", 2, 1, 0), ("move", 2, 1, 0), True),
                (("add", 4, "d", 0, 0), ("add", 4, "d", 0, 0), False), (("move", 2, 1, 0), ("move", 2, 1, 3), False)):
            self.assertIs(are_free(PLOT, d, e), free, (d, e))
            self.assertIs(are_free(PLOT, e, d), free, (e, d))

    def test_by_definition(self):
        rng = random.Random(221)
        free = 0
        for t in random_plots(221, 3000, 5):
            d, e = random_deed(rng, MARKS), random_deed(rng, MARKS)
            right = slow_both(t, (d,), (e,)) is not None
            free += right
            self.assertIs(are_free(t, d, e), right)
        self.assertGreater(free, 20)


class Agree(unittest.TestCase):
    def test_ordinary(self):
        self.assertIs(agree(PLOT, (X,), [("move", 3, 0, 0)]), True)
        self.assertIs(agree(PLOT, (X,), (Y,)), False)
        self.assertIs(agree(PLOT, (X, Y), (Y,)), True)
        self.assertIs(agree(PLOT, (), ()), True)
        self.assertIs(agree((), [], []), True)
        self.assertIs(agree(PLOT, (), (X,)), True)

    def test_scripts_that_cannot_be_run(self):
        # Each of them, alone or behind the other one.
        self.assertIs(agree(PLOT, (("drop", 1),), ()), False)
        self.assertIs(agree(PLOT, (), (X, ("drop", 9))), False)
        self.assertIs(agree(PLOT, (("drop", 2), ("drop", 3)), (("drop", 1),)), False)
        self.assertIs(agree(PLOT, (("drop", 2),), (X,)), False)
        self.assertIs(agree(PLOT, (X,), (("drop", 2),)), False)
        self.assertIs(agree((), (("add", 1, "a", 0, 0),), (("add", 1, "a", 0, 0),)), False)

    def test_agree_although_a_corner_is_not_there(self):
        p, q = (X, Y), (Y,)
        self.assertIs(is_square(PLOT, p, q), False)
        self.assertIs(clash_of(PLOT, p, q), None)
        self.assertEqual(corners(PLOT, p, q)[1][1], None)
        self.assertEqual(merged(PLOT, p, q), run(PLOT, (Y,)))
        # A clash on the way that both undo.
        p, q = (("drop", 2), ("add", 2, "b", 1, 0)), (("move", 3, 1, 2),)
        self.assertEqual(corners(PLOT, p, q)[1][1], None)
        self.assertIs(agree(PLOT, p, q), True)
        self.assertEqual(merged(PLOT, p, q), PLOT)


class Merged(unittest.TestCase):
    def test_ordinary(self):
        self.assertEqual(plot_text(merged(PLOT, (X,), (("move", 3, 0, 0),))), "3c,1a(2x)")
        self.assertEqual(plot_text(merged(PLOT, [X, ("drop", 3)], [("add", 4, "d", 0, 1)])), "1a(2x),4d")
        self.assertEqual(merged(PLOT, (), ()), PLOT)
        self.assertEqual(merged((), [], ()), ())
        self.assertEqual(merged(PLOT, (X,), (X,)), run(PLOT, (X,)))
        self.assertEqual(plot_text(PLOT), "1a(2b,3c)")

    def clash(self, t, p, q):
        with self.assertRaises(Clash) as caught:
            merged(t, p, q)
        return (caught.exception.deed, caught.exception.other)

    def test_clash(self):
        self.assertEqual(self.clash(PLOT, (X,), (Y,)), (X, Y))
        self.assertEqual(self.clash(PLOT, [("move", 3, 0, 0), X], [("add", 4, "d", 3, 0), Y]), (X, Y))
        drop = ("drop", 2)
        self.assertEqual(self.clash(PLOT, (drop,), (drop,)), (drop, drop))

    def test_by_definition(self):
        rng = random.Random(222)
        clashes = 0
        for t in random_plots(222, 250, 5):
            p, q = random_script(rng, t, 4, MARKS), random_script(rng, t, 4, MARKS)
            right = slow_both(t, p, q)
            self.assertIs(agree(t, p, q), right is not None)
            if right is not None:
                self.assertEqual(merged(t, p, q), right)
                self.assertEqual(merged(t, q, p), right)
            else:
                clashes += 1
                self.assertEqual(self.clash(t, p, q), slow_clash(t, p, q))
                self.assertEqual(self.clash(t, q, p), slow_clash(t, q, p))
        self.assertGreater(clashes, 50)
        self.assertLess(clashes, 200)


class Corners(unittest.TestCase):
    def test_ordinary(self):
        p, q = (X, ("word", 1, "y")), [("move", 3, 0, 0)]
        texts = tuple(tuple(plot_text(plot) for plot in row) for row in corners(PLOT, p, q))
        self.assertEqual(texts, (("1a(2b,3c)", "3c,1a(2b)"), ("1a(2x,3c)", "3c,1a(2x)"), ("1y(2x,3c)", "3c,1y(2x)")))

    def test_empty(self):
        self.assertEqual(corners((), (), ()), (((),),))
        self.assertEqual(corners(PLOT, [], []), ((PLOT,),))
        behind = run(PLOT, (X,))
        self.assertEqual(corners(PLOT, (X,), ()), ((PLOT,), (behind,)))
        self.assertEqual(corners(PLOT, (), (X,)), ((PLOT, behind),))
        for p, q in (((), ()), ((X,), ()), ((), [X])):
            self.assertIs(is_square(PLOT, p, q), True)
            self.assertIs(clash_of(PLOT, p, q), None)

    def test_not_there(self):
        # All that rests on a corner that is not there is not there either, but the edges are.
        p, q = (X, ("move", 3, 0, 0)), (Y, ("word", 1, "z"))
        rows = corners(PLOT, p, q)
        self.assertEqual([[plot is None for plot in row] for row in rows], [
            [False, False, False], [False, True, True], [False, True, True]])
        self.assertEqual((rows[2][0], rows[0][2]), (run(PLOT, p), run(PLOT, q)))

    def test_by_definition(self):
        rng = random.Random(223)
        squares = 0
        for t in random_plots(223, 200, 5):
            p, q = random_script(rng, t, 4, MARKS), random_script(rng, t, 4, MARKS)
            there = slow_corners(t, p, q)
            right = tuple(tuple(there.get((i, j)) for j in range(len(q) + 1)) for i in range(len(p) + 1))
            self.assertEqual(corners(t, p, q), right)
            self.assertEqual(corners(t, list(p), list(q)), right)
            self.assertEqual(corners(t, q, p), tuple(zip(*right)))
            whole = len(there) == (len(p) + 1) * (len(q) + 1)
            self.assertIs(is_square(t, p, q), whole)
            self.assertIs(is_square(t, q, p), whole)
            if whole:
                squares += 1
                self.assertEqual(merged(t, p, q), right[-1][-1])
            if not agree(t, p, q):
                self.assertIs(whole, False)
        self.assertGreater(squares, 50)


class ClashOf(unittest.TestCase):
    def test_least_of_several(self):
        t = read_plot("1a(2b,3c),4d")
        a, b, c = ("word", 1, "x"), ("word", 2, "x"), ("word", 3, "x")
        d, e, f = ("word", 1, "y"), ("word", 2, "y"), ("word", 3, "y")
        # Clashes at (0, 2) and (2, 0): of equal sums the least i.
        self.assertEqual(clash_of(t, (a, ("word", 4, "x"), c), (f, ("word", 4, "x"), d)), (a, d))
        # With both exchanged it may be another pair.
        self.assertEqual(clash_of(t, (f, ("word", 4, "x"), d), (a, ("word", 4, "x"), c)), (f, c))
        # Clashes at (1, 1) and (0, 3): the least sum, not the least i.
        self.assertEqual(clash_of(t, (a, b), (f, e, ("word", 4, "z"), d)), (b, e))
        # At (2, 0) and (0, 1): the least sum, not the first script's last deed.
        self.assertEqual(clash_of(t, (a, b, c), (f, d)), (a, d))

    def test_clash_behind_others(self):
        # What was clear at the plot clashes behind another deed.
        p, q = (("move", 2, 3, 0),), (("move", 4, 2, 0), ("move", 3, 4, 0))
        t = read_plot("1a(2b,3c),4d")
        self.assertEqual(clash_of(t, p, q), (p[0], q[1]))
        self.assertIs(agree(t, p, q[:1]), True)
        self.assertIs(agree(t, p, q[1:]), True)

    def test_none_where_they_agree(self):
        self.assertIs(clash_of(PLOT, (X,), (("move", 3, 0, 0),)), None)
        self.assertIs(clash_of(PLOT, (X, Y), (Y,)), None)

    def test_full_size(self):
        rng = random.Random(224)
        marks = tuple(range(1, 14))
        for text in FULL_PLOT_TEXTS:
            t = read_plot(text)
            for _ in range(3):
                p, q = random_script(rng, t, 8, marks), random_script(rng, t, 8, marks)
                self.assertEqual(clash_of(t, p, q), slow_clash(t, p, q))
        # What script_between and the like return has up to thirty deeds.
        t = read_plot(FULL_PLOT_TEXTS[0])
        p = tuple(("word", k % 12 + 1, "x" * (k % 7 + 1)) for k in range(30))
        q = tuple(("move", k % 5 + 2, 1, 0) for k in range(29)) + (("word", 1, "y"),)
        self.assertEqual(clash_of(t, p, q), (p[0], q[29]))
        self.assertIs(is_square(t, p, q[:29]), True)
        self.assertEqual(len(corners(t, p, q)), 31)


class FarApart(unittest.TestCase):
    def test_ordinary(self):
        for p, q, apart in (
                ((), (), True), ((X,), (), True), ((X,), (X,), False), ((X,), (("word", 1, "x"),), True),
                # A mark as mark, parent or behind.
                ((X,), (("add", 4, "d", 2, 0),), False), ((X,), (("move", 3, 1, 2),), False),
                ((("move", 3, 1, 2),), (("add", 4, "d", 1, 0),), False), ((("drop", 2),), (("move", 2, 0, 0),), False),
                ((("add", 5, "e", 4, 6),), (("add", 7, "e", 6, 4),), False),
                ((X, ("drop", 3)), (("word", 1, "x"), ("drop", 3)), False),
                # Both add or move to the roots.
                ((("add", 4, "d", 0, 1),), (("add", 5, "d", 0, 3),), False),
                ((("add", 4, "d", 0, 1),), (("move", 5, 0, 3),), False),
                ((("add", 4, "d", 0, 1),), (("add", 5, "d", 3, 0),), True),
                ((("add", 4, "d", 1, 0),), (("add", 5, "d", 3, 0),), True),
                # Both move.
                ((("move", 4, 1, 0),), (("move", 5, 3, 0),), False), ((("move", 4, 1, 0),), (("add", 5, "a", 3, 0),), True),
                ((X, ("move", 4, 0, 0)), (("drop", 1), ("move", 5, 6, 7)), False),
                ((("move", 4, 1, 0), ("move", 4, 1, 2)), (("word", 3, "x"), ("drop", 3)), True),
                ((("drop", HUGE),), (("drop", HUGE),), False), ((("drop", HUGE),), (("drop", HUGE + 1),), True)):
            for kind in (tuple, list):
                self.assertIs(far_apart(kind(p), kind(q)), apart, (p, q))
                self.assertIs(far_apart(kind(q), kind(p)), apart, (q, p))

    def test_all_corners_are_there(self):
        rng = random.Random(225)
        apart = 0
        for t in random_plots(225, 300, 8):
            p, q = (random_script(rng, t, 3, marks) for marks in ((1, 2, 3, 4, 5, 6), (7, 8, 9, 10, 11, 12)))
            if far_apart(p, q):
                apart += bool(p and q)
                self.assertIs(is_square(t, p, q), True)
                self.assertIs(agree(t, p, q), True)
        self.assertGreater(apart, 20)


CALLS = (agree, merged, corners, is_square, clash_of)


class Errors(unittest.TestCase):
    def test_no_plots_ahead_of_all(self):
        for value in NO_PLOTS:
            for call in CALLS:
                for p, q in (((), ()), ((None,), (None,)), ((("drop", 7),), None)):
                    with self.assertRaises(InvalidPlot) as caught:
                        call(value, p, q)
                    self.assertIs(caught.exception.value, value)
            for d, e in ((X, Y), (None, None), (("drop", 7), X)):
                with self.assertRaises(InvalidPlot) as caught:
                    are_free(value, d, e)
                self.assertIs(caught.exception.value, value)

    def test_no_deeds_ahead_of_refusals(self):
        refused = (("drop", 77), X)
        for wrong, value in spoilt_scripts((X, Y), NO_DEEDS + NOTHINGS):
            for call in CALLS + (lambda t, p, q: far_apart(p, q),):
                for p, q in ((wrong, (X,)), (wrong, refused), (wrong, ([], True)), (refused, wrong), ((X,), wrong)):
                    with self.assertRaises(InvalidScript) as caught:
                        call(PLOT, p, q)
                    self.assertIs(caught.exception.value, value)
        for value in NO_DEEDS + NOTHINGS:
            for d, e in ((value, X), (value, None), (("drop", 77), value)):
                with self.assertRaises(InvalidScript) as caught:
                    are_free(PLOT, d, e)
                self.assertIs(caught.exception.value, value)

    def test_refusals_of_the_left_one_first(self):
        for call in (merged, corners, is_square, clash_of):
            for p, q, deed, reason in (
                    ((("drop", 1), X), (("drop", 9),), ("drop", 1), "children"),
                    ((X, ("drop", 8)), (("drop", 9),), ("drop", 8), "mark"),
                    ((X,), (Y, ("move", 1, 2, 3)), ("move", 1, 2, 3), "inside"),
                    ((), (("add", 4, "d", 8, 0), ("drop", 9)), ("add", 4, "d", 8, 0), "parent"),
                    # The second script is run at the plot, not behind the first one.
                    ((("add", 4, "d", 1, 0),), (("word", 4, "x"),), ("word", 4, "x"), "mark"),
                    ((X,), (("move", 2, 0, 3),), ("move", 2, 0, 3), "behind")):
                with self.assertRaises(Refusal) as caught:
                    call(PLOT, p, q)
                self.assertEqual((caught.exception.deed, caught.exception.reason), (deed, reason))
                self.assertIs(runs(PLOT, q) is None or runs(PLOT, p) is None, True)
