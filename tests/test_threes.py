"""Promise 32: merges of three plots and of three forests."""

import random
import unittest

from graftbook.between import script_between
from graftbook.distances import first_matching
from graftbook.errors import Clash, InvalidForest, InvalidPlot, InvalidPrices
from graftbook.forests import forest_size
from graftbook.foresttext import forest_text, read_forest
from graftbook.merges import merged
from graftbook.plots import bare, marked
from graftbook.plottext import plot_text, read_plot
from graftbook.threes import merged_forests, merged_three, three_agree
from tests.boards import random_script, runs, slow_both, slow_clash
from tests.samples import ALL_PRICES, EVEN, FULL_PLOT_TEXTS, NO_PLOTS, NOTHINGS, SKEW, random_forest, random_plots

BASE = read_plot("1a(2b,3c)")


def clash_of_call(call, *given):
    """The deeds of the Clash that a call raises, None if it raises none."""
    try:
        call(*given)
    except Clash as clash:
        return (clash.deed, clash.other)
    return None


class MergedThree(unittest.TestCase):
    def test_ordinary(self):
        for left, right, text in (
                ("1a(2x,3c)", "3c,1a(2b)", "3c,1a(2x)"), ("1a(2b)", "1a(2b,3c,4d)", None), ("1a(3c)", "1x(2b,3c)", "1x(3c)"),
                ("1a(2b,3c),4d", "1a(5e(2b),3c)", "1a(5e,3c),4d"), ("", "", None), ("1a(2x,3c)", "1a(2x,3c)", "1a(2x,3c)"),
                ("1a(2x,3c)", "1a(2y,3c)", None), ("1a(2b,3c,4d)", "1a(2b,3c,4d)", None)):
            u, v = read_plot(left), read_plot(right)
            for sides in ((u, v), (v, u)):
                found = None
                if three_agree(BASE, *sides):
                    found = plot_text(merged_three(BASE, *sides))
                else:
                    self.assertIsNotNone(clash_of_call(merged_three, BASE, *sides))
                if (left, right) != ("1a(2b,3c),4d", "1a(5e(2b),3c)"):
                    self.assertEqual(found, text, (left, right))
        self.assertEqual(plot_text(merged_three(BASE, read_plot("1a(2b,3c),4d"), read_plot("1a(5e(2b),3c)"))),
                         "1a(5e(2b),3c),4d")

    def test_one_side_as_before(self):
        for t in list(random_plots(251, 60, 7)) + [read_plot(text) for text in FULL_PLOT_TEXTS] + [()]:
            for base in (BASE, (), t):
                self.assertEqual(merged_three(base, base, t), t)
                self.assertEqual(merged_three(base, t, base), t)
                self.assertIs(three_agree(base, t, base), True)

    def test_both_sides_the_same(self):
        # What both added or dropped clashes, though it is equal; words and moves do not.
        for text, agreed in (("1a(2b,3c),4d", False), ("1a(2b)", False), ("1a(2x,3c)", True), ("3c,1a(2b)", True)):
            u = read_plot(text)
            self.assertIs(three_agree(BASE, u, u), agreed)
            if agreed:
                self.assertEqual(merged_three(BASE, u, u), u)
        u = read_plot("1a(2b,3c,4d)")
        self.assertEqual(clash_of_call(merged_three, BASE, u, u), (("add", 4, "d", 1, 3),) * 2)
        self.assertEqual(clash_of_call(merged_three, BASE, (), ()), (("drop", 3),) * 2)

    def test_by_definition(self):
        rng = random.Random(252)
        clashes = 0
        for base in random_plots(252, 200, 6):
            left, right = (runs(base, random_script(rng, base, 3, (1, 2, 3, 4, 5, 6, 7))) for _ in range(2))
            p, q = script_between(base, left), script_between(base, right)
            self.assertIs(three_agree(base, left, right), slow_both(base, p, q) is not None)
            self.assertIs(three_agree(base, right, left), slow_both(base, p, q) is not None)
            if three_agree(base, left, right):
                self.assertEqual(merged_three(base, left, right), slow_both(base, p, q))
                self.assertEqual(merged_three(base, right, left), slow_both(base, p, q))
            else:
                clashes += 1
                self.assertEqual(clash_of_call(merged_three, base, left, right), slow_clash(base, p, q))
                self.assertEqual(clash_of_call(merged_three, base, right, left), slow_clash(base, q, p))
        self.assertGreater(clashes, 20)
        self.assertLess(clashes, 180)

    def test_full_size(self):
        plots = [read_plot(text) for text in FULL_PLOT_TEXTS]
        for left in plots:
            for right in plots[:2]:
                p, q = script_between(plots[2], left), script_between(plots[2], right)
                self.assertEqual(clash_of_call(merged_three, plots[2], left, right), slow_clash(plots[2], p, q))


class MergedForests(unittest.TestCase):
    def merged(self, base, left, right, prices=EVEN):
        return forest_text(merged_forests(read_forest(base), read_forest(left), read_forest(right), prices))

    def test_ordinary(self):
        self.assertEqual(self.merged("a(b,c)", "a(x,c)", "a(b)"), "a(x)")
        self.assertEqual(self.merged("a(b,c)", "a(b,c,d)", "e,a(b,c)"), "e,a(b,c,d)")
        self.assertEqual(self.merged("", "", ""), "")
        self.assertEqual(self.merged("a", "a", "b"), "b")
        self.assertEqual(self.merged("a(b(c),d)", "a(c,d)", "a(b(c),e)"), "a(c,e)")

    def test_numbers_of_what_is_new(self):
        # Left's further nodes get 3 and 4, those of right 5.
        base, left, right = (read_forest(text) for text in ("a(b)", "a(b,c,d)", "a(b,e)"))
        self.assertEqual(clash_of_call(merged_forests, base, left, right, EVEN), (
            ("add", 3, "c", 1, 2), ("add", 5, "e", 1, 2)))
        self.assertEqual(clash_of_call(merged_forests, base, right, left, EVEN), (
            ("add", 3, "e", 1, 2), ("add", 4, "c", 1, 2)))

    def test_by_definition(self):
        rng = random.Random(253)
        clashes = 0
        for _ in range(120):
            base, left, right = (random_forest(rng, rng.randint(0, 4)) for _ in range(3))
            if rng.random() < 0.5:
                left = base
            prices = rng.choice(ALL_PRICES)
            free = forest_size(base) + 1
            plots = []
            for other in (left, right):
                marks = [0] * forest_size(other)
                for i, j in first_matching(base, other, prices):
                    marks[j] = i + 1
                for j, mark in enumerate(marks):
                    if mark == 0:
                        marks[j] = free
                        free += 1
                plots.append(marked(other, marks))
            t = marked(base, range_of(base))
            p, q = script_between(t, plots[0]), script_between(t, plots[1])
            clash = clash_of_call(merged_forests, base, left, right, prices)
            self.assertEqual(clash, slow_clash(t, p, q))
            if clash is None:
                self.assertEqual(merged_forests(base, left, right, prices), bare(merged(t, p, q)))
                self.assertEqual(merged_forests(base, right, left, prices), bare(merged(t, p, q)))
            clashes += clash is not None
        self.assertGreater(clashes, 15)

    def test_one_side_as_before(self):
        rng = random.Random(254)
        for _ in range(40):
            base, other = (random_forest(rng, rng.randint(0, 5)) for _ in range(2))
            # A base of unlike words, so that its first matching with itself pairs each node with itself.
            self.assertEqual(merged_forests(base, base, base, EVEN), base)
            for sides in ((base, other), (other, base)):
                self.assertEqual(merged_forests(base, *sides, EVEN), other)

    def test_full_size(self):
        for text in ("a,b,c,d,e", "a(b(c(d(e))))", "a(b,c(d,e))"):
            for other in ("f,g,h,i,j", "e(d,c(b,a))", "a(b,c(x,y))"):
                base, left = read_forest(text), read_forest(other)
                self.assertEqual(merged_forests(base, left, base, SKEW), left)


def range_of(a):
    return tuple(range(1, forest_size(a) + 1))


class Errors(unittest.TestCase):
    def test_plots_from_the_left(self):
        for call in (merged_three, three_agree):
            for value in NO_PLOTS:
                for given in ((value, None, None), (BASE, value, None), (BASE, BASE, value), ((), BASE, value)):
                    with self.assertRaises(InvalidPlot) as caught:
                        call(*given)
                    self.assertIs(caught.exception.value, value)

    def test_forests_then_prices(self):
        a = read_forest("a(b)")
        for value in NOTHINGS:
            for given in ((value, None, None, None), (a, value, None, None), (a, a, value, None), ((), (), value, EVEN)):
                with self.assertRaises(InvalidForest) as caught:
                    merged_forests(*given)
                self.assertIs(caught.exception.value, value)
            for given in ((a, a, a, value), (a, read_forest("a(b,c)"), read_forest("a(b,d)"), value)):
                with self.assertRaises(InvalidPrices) as caught:
                    merged_forests(*given)
                self.assertIs(caught.exception.value, value)
