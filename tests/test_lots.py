"""Promise 30: several scripts that agree in every order."""

import random
import unittest

from graftbook.errors import InvalidPlot, InvalidScript, Undefined
from graftbook.lots import greatest_lot, lots_agree, merged_all
from graftbook.merges import agree, merged
from graftbook.plottext import plot_text, read_plot
from graftbook.scripts import run
from tests.boards import NO_DEEDS, random_script, runs, slow_all, slow_lot
from tests.samples import FULL_PLOT_TEXTS, NO_PLOTS, NOTHINGS, random_plots

PLOT = read_plot("1a(4d,5e,2b,3c)")
# The first two agree only if the third is there: behind 4 there is nothing between 2 and 3 then.
NEAR = (("move", 3, 1, 2),)
AHEAD = (("move", 2, 1, 4),)
DROP = (("drop", 5),)
# Each two agree, all three do not.
ROUND = ((("move", 2, 3, 0),), (("move", 3, 4, 0),), (("move", 4, 2, 0),))
X = (("word", 1, "x"),)
Y = (("word", 1, "y"),)


class LotsAgree(unittest.TestCase):
    def test_ordinary(self):
        for scripts, right in (
                ((X, DROP, NEAR), True), ((X, Y), False), ((X, X, X), True), ((X, DROP, Y), False),
                ((NEAR, AHEAD, DROP), True), ((NEAR, AHEAD), False), (ROUND, False), (ROUND[:2], True),
                (ROUND[1:], True), (ROUND[::2], True), ((X, ROUND[0], ROUND[1], DROP), True),
                # One that can be run behind others alone.
                (((("add", 6, "f", 0, 0),), (("word", 6, "g"),)), False), ((DROP, DROP), False)):
            for kind in (tuple, list):
                for order in (scripts, scripts[::-1]):
                    self.assertIs(lots_agree(PLOT, kind(list(script) for script in order)), right, scripts)

    def test_none_and_one(self):
        for t in (PLOT, ()):
            for scripts in ((), [], ((),), [[]], ((), (), ())):
                self.assertIs(lots_agree(t, scripts), True)
                self.assertEqual(merged_all(t, scripts), t)
                self.assertEqual(greatest_lot(t, scripts), tuple(range(len(scripts))))
        self.assertIs(lots_agree(PLOT, (X,)), True)
        self.assertEqual(merged_all(PLOT, [X]), run(PLOT, X))
        for script in ((("drop", 1),), X + (("drop", 9),)):
            self.assertIs(lots_agree(PLOT, (script,)), False)
            self.assertEqual(greatest_lot(PLOT, (script,)), ())

    def test_two_are_as_agree_says(self):
        rng = random.Random(231)
        for t in random_plots(231, 100, 5):
            p, q = random_script(rng, t, 3, (1, 2, 3, 4)), random_script(rng, t, 3, (1, 2, 3, 4))
            self.assertIs(lots_agree(t, (p, q)), agree(t, p, q))
            if agree(t, p, q):
                self.assertEqual(merged_all(t, (p, q)), merged(t, p, q))

    def test_by_definition(self):
        rng = random.Random(232)
        met = {}
        for t in random_plots(232, 120, 6):
            scripts = [random_script(rng, t, 2, (1, 2, 3, 4, 5, 6)) for _ in range(rng.randint(0, 4))]
            if rng.random() < 0.2:
                scripts.append((("drop", 99),))
            scripts = scripts[:4]
            right = slow_all(t, scripts)
            self.assertIs(lots_agree(t, scripts), right is not None)
            lot = slow_lot(t, scripts)
            self.assertEqual(greatest_lot(t, tuple(scripts)), lot)
            met[len(scripts), len(lot)] = True
            if right is None:
                with self.assertRaises(Undefined) as caught:
                    merged_all(t, scripts)
                self.assertEqual(caught.exception.what, "merge")
            else:
                self.assertEqual(merged_all(t, scripts), right)
        self.assertIn((4, 4), met)
        self.assertIn((4, 3), met)
        self.assertIn((4, 2), met)


class MergedAll(unittest.TestCase):
    def test_ordinary(self):
        for scripts in ((NEAR, AHEAD, DROP), (DROP, AHEAD, NEAR), [AHEAD, NEAR, DROP]):
            self.assertEqual(plot_text(merged_all(PLOT, scripts)), "1a(4d,2b,3c)")

    def test_undefined(self):
        for scripts in ((NEAR, AHEAD), ROUND, (X, Y, DROP), ((("drop", 9),),), ((), (("drop", 1),))):
            with self.assertRaises(Undefined) as caught:
                merged_all(PLOT, scripts)
            self.assertEqual(caught.exception.what, "merge")


class GreatestLot(unittest.TestCase):
    def test_ordinary(self):
        for scripts, lot in (
                ((NEAR, AHEAD, DROP), (0, 1, 2)), ((NEAR, AHEAD), (0,)), (ROUND, (0, 1)), (ROUND[::-1], (0, 1)),
                ((X, Y, DROP), (0, 2)), ((Y, X, DROP), (0, 2)), ((X, Y, X, Y), (0, 2)), ((X, Y, Y, Y), (1, 2, 3)),
                (((("drop", 9),), X), (1,)), (((("drop", 9),), (("drop", 1),)), ()), ((X,) + ROUND, (0, 1, 2)),
                (ROUND + (X,), (0, 1, 3)), ((ROUND[0], (("drop", 1),), ROUND[2], X), (0, 2, 3))):
            self.assertEqual(greatest_lot(PLOT, scripts), lot, scripts)
            self.assertEqual(greatest_lot(PLOT, [list(script) for script in scripts]), lot)

    def test_full_size(self):
        rng = random.Random(233)
        for text in FULL_PLOT_TEXTS:
            t = read_plot(text)
            scripts = [random_script(rng, t, 4, tuple(range(1, 14))) for _ in range(4)]
            for kinds in (("word",), ("word", "move", "add", "drop")):
                longer = [random_script(rng, t, 4, (3 * k + 1, 3 * k + 2), "xy", kinds) for k in range(4)]
                self.assertEqual(greatest_lot(t, longer), slow_lot(t, longer))
            self.assertEqual(greatest_lot(t, scripts), slow_lot(t, scripts))


class Errors(unittest.TestCase):
    def test_in_order(self):
        for call in (lots_agree, merged_all, greatest_lot):
            for value in NO_PLOTS:
                for scripts in ((), (X,), ((None,),), (None,), ((("drop", 9),), X)):
                    with self.assertRaises(InvalidPlot) as caught:
                        call(value, scripts)
                    self.assertIs(caught.exception.value, value)
            for value in NO_DEEDS + NOTHINGS:
                for scripts in (((value,),), (X, (("drop", 9), value)), [[value, None], [False]], ((), (value,), X),
                                ((("drop", 9),), X, X, X + (value,))):
                    with self.assertRaises(InvalidScript) as caught:
                        call(PLOT, scripts)
                    self.assertIs(caught.exception.value, value)

    def test_scripts_that_cannot_be_run_are_no_error(self):
        self.assertIs(runs(PLOT, (("drop", 9),)), None)
        self.assertIs(lots_agree(PLOT, (X, (("drop", 9),))), False)
        self.assertEqual(greatest_lot(PLOT, ((("drop", 9),), X, ())), (1, 2))
