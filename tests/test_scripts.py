"""Promise 27, and of promise 26 what it says of scripts: run, prefix_run, back_script, touched."""

import random
import unittest

from graftbook.errors import InvalidPlot, InvalidScript, Refusal
from graftbook.plots import is_plot
from graftbook.plottext import plot_text, read_plot
from graftbook.scripts import back_script, prefix_run, run, touched
from tests.boards import NO_DEEDS, random_deed, random_script, runs, slow_run, spoilt_scripts
from tests.samples import FULL_PLOT_TEXTS, HUGE, NO_PLOTS, NOTHINGS, random_plots

PLOT = read_plot("5a(2b,9c(1d)),7e")
SCRIPT = (("add", 3, "x", 9, 1), ("move", 9, 0, 7), ("drop", 2), ("word", 5, "y"), ("drop", 5), ("add", 2, "z", 3, 0))
MARKS = tuple(range(1, 9))

# Scripts that are refused in the middle: the number of the deed, the reason.
REFUSED = (
    ((("drop", 1), ("drop", 1), ("drop", 99)), 1, "mark"),
    ((("add", 3, "x", 0, 0), ("add", 3, "x", 0, 0)), 1, "mark"),
    ((("drop", 1), ("word", 1, "x")), 1, "mark"),
    ((("drop", 7), ("move", 7, 0, 0), ("drop", 4)), 1, "mark"),
    ((("drop", 7), ("add", 3, "x", 7, 0)), 1, "parent"),
    ((("drop", 7), ("move", 2, 7, 0)), 1, "parent"),
    ((("move", 2, 1, 0), ("move", 9, 2, 0)), 1, "inside"),
    ((("word", 2, "x"), ("move", 5, 5, 5), ("drop", 7)), 1, "inside"),
    ((("drop", 2), ("move", 1, 5, 2)), 1, "behind"),
    ((("move", 2, 0, 7), ("add", 3, "x", 5, 2)), 1, "behind"),
    ((("add", 3, "x", 7, 0), ("word", 7, "x"), ("drop", 7)), 2, "children"),
    ((("drop", 5), ("drop", 1)), 0, "children"),
)


class Run(unittest.TestCase):
    def test_ordinary(self):
        self.assertEqual(plot_text(run(PLOT, SCRIPT)), "7e,9c(1d,3x(2z))")
        self.assertEqual(plot_text(PLOT), "5a(2b,9c(1d)),7e")
        self.assertEqual(run(PLOT, list(SCRIPT)), run(PLOT, SCRIPT))

    def test_empty(self):
        for script in ((), []):
            self.assertEqual(run(PLOT, script), PLOT)
            self.assertEqual(run((), script), ())
        self.assertEqual(run((), (("add", 1, "a", 0, 0), ("add", 2, "b", 0, 1))), ((1, "a", ()), (2, "b", ())))
        self.assertEqual(run(((1, "a", ()),), (("drop", 1),)), ())

    def test_the_first_that_is_refused(self):
        for script, k, reason in REFUSED:
            for call in (run, back_script):
                for kind in (tuple, list):
                    with self.assertRaises(Refusal) as caught:
                        call(PLOT, kind(script))
                    self.assertEqual((caught.exception.deed, caught.exception.reason), (script[k], reason))

    def test_by_definition(self):
        rng = random.Random(211)
        refused = 0
        for t in random_plots(211, 300, 6):
            script = tuple(random_deed(rng, MARKS) for _ in range(rng.randint(0, 4)))
            right = slow_run(t, script)
            if is_plot(right):
                self.assertEqual(run(t, script), right)
                continue
            refused += 1
            with self.assertRaises(Refusal) as caught:
                run(t, script)
            self.assertEqual((caught.exception.deed, caught.exception.reason), (script[right[0]], right[1]))
        self.assertGreater(refused, 100)

    def test_beyond_the_sizes(self):
        deep = tuple(("add", k, "x", k - 1, 0) for k in range(1, 20)) + (("add", HUGE, "x", 0, 0),)
        self.assertEqual(run((), deep), runs((), deep))


class PrefixRun(unittest.TestCase):
    def test_ordinary(self):
        self.assertEqual(prefix_run(PLOT, SCRIPT), (run(PLOT, SCRIPT), len(SCRIPT)))
        self.assertEqual(prefix_run(PLOT, list(SCRIPT)), (run(PLOT, SCRIPT), len(SCRIPT)))
        self.assertEqual(prefix_run(PLOT, ()), (PLOT, 0))
        self.assertEqual(prefix_run((), []), ((), 0))

    def test_refused(self):
        for script, k, _ in REFUSED:
            self.assertEqual(prefix_run(PLOT, script), (run(PLOT, script[:k]), k))
        self.assertEqual(prefix_run((), (("drop", 1), ("add", 1, "a", 0, 0))), ((), 0))
        # What stands behind the deed that is refused is not run, though it could be.
        self.assertEqual(prefix_run(PLOT, (("drop", 5), ("drop", 7))), (PLOT, 0))


class BackScript(unittest.TestCase):
    def test_ordinary(self):
        self.assertEqual(back_script(PLOT, SCRIPT), (
            ("drop", 2), ("add", 5, "y", 0, 0), ("word", 5, "a"), ("add", 2, "b", 5, 0), ("move", 9, 5, 2), ("drop", 3)))
        self.assertEqual(back_script(PLOT, ()), ())
        self.assertEqual(back_script(PLOT, [("word", 2, "b")]), (("word", 2, "b"),))

    def test_leads_back(self):
        rng = random.Random(212)
        for t in random_plots(212, 150, 7):
            script = random_script(rng, t, 8, MARKS)
            back = back_script(t, script)
            self.assertEqual(len(back), len(script))
            self.assertEqual(run(run(t, script), back), t)
            self.assertEqual(run(t, script + back), t)
            self.assertEqual(run(t, back_script(run(t, script), back)), run(t, script))
            turned = {"add": "drop", "drop": "add"}
            self.assertEqual([(turned.get(deed[0], deed[0]), deed[1]) for deed in reversed(back)],
                             [deed[:2] for deed in script])

    def test_full_size(self):
        rng = random.Random(213)
        for text in FULL_PLOT_TEXTS:
            t = read_plot(text)
            script = random_script(rng, t, 8, tuple(range(1, 13)))
            while len(script) < 8:
                script = random_script(rng, t, 8, tuple(range(1, 13)))
            self.assertEqual(run(run(t, script), back_script(t, script)), t)


class Touched(unittest.TestCase):
    def test_ordinary(self):
        self.assertEqual(touched(SCRIPT), (2, 3, 5, 9))
        self.assertEqual(touched([("drop", 9), ("drop", 9), ("word", 10, "a"), ("drop", HUGE)]), (9, 10, HUGE))
        for script in ((), []):
            self.assertEqual(touched(script), ())
        # Only what a deed is done to, not its parent or what it stands behind; scripts need not run.
        self.assertEqual(touched((("move", 3, 1, 2), ("add", 4, "a", 5, 6))), (3, 4))


class Errors(unittest.TestCase):
    def test_no_plots_ahead_of_all(self):
        for call in (run, prefix_run, back_script):
            for value in NO_PLOTS:
                for script in (SCRIPT, (), (None,), [("drop", 0)], (("drop", 77),), None):
                    with self.assertRaises(InvalidPlot) as caught:
                        call(value, script)
                    self.assertIs(caught.exception.value, value)

    def test_no_deeds_ahead_of_refusals(self):
        refused = (("drop", 77),) + SCRIPT
        for script in (SCRIPT[:3], refused[:3]):
            for wrong, value in spoilt_scripts(script, NO_DEEDS + NOTHINGS):
                for call in (run, prefix_run, back_script, lambda t, script: touched(script)):
                    for t in (PLOT, ()):
                        with self.assertRaises(InvalidScript) as caught:
                            call(t, wrong)
                        self.assertIs(caught.exception.value, value)

    def test_no_sequences(self):
        for value in (None, True, 0, HUGE, "", "drop", {}):
            for call in (run, prefix_run, back_script, lambda t, script: touched(script)):
                with self.assertRaises(InvalidScript) as caught:
                    call(PLOT, value)
                self.assertIs(caught.exception.value, value)
