"""Promise 26, and of promise 27 refusal_of and back_deed: deeds."""

import unittest

from graftbook.deeds import back_deed, is_deed, refusal_of, run_deed
from graftbook.errors import InvalidPlot, InvalidScript, Refusal
from graftbook.plots import is_plot, marks_of
from graftbook.plottext import plot_text, read_plot
from tests.boards import NO_DEEDS, Board, all_deeds
from tests.samples import FULL_PLOT_TEXTS, HUGE, LONG_WORD, NO_PLOTS, NOTHINGS, random_plots, spoilt

PLOT = read_plot("5a(2b,9c(1d)),7e")
KINDS = ("add", "drop", "move", "word")


class IsDeed(unittest.TestCase):
    def test_ordinary(self):
        for deed in (("add", 1, "a", 0, 0), ("drop", 1), ("move", 1, 0, 0), ("word", 1, "a"),
                     ("add", HUGE, LONG_WORD, HUGE, HUGE), ("move", 1, 1, 1), ("drop", HUGE), ("add", 1, "drop", 1, 1)):
            self.assertIs(is_deed(deed), True)

    def test_any_value(self):
        for value in NO_DEEDS + NOTHINGS + NO_PLOTS:
            self.assertIs(is_deed(value), False, value)
        for deed in (("add", 1, "a", 2, 3), ("drop", 1), ("move", 1, 2, 3), ("word", 1, "a")):
            for value in spoilt(deed):
                self.assertIs(is_deed(value), False, value)


class RunDeed(unittest.TestCase):
    def behind(self, deed, text):
        self.assertIs(refusal_of(PLOT, deed), None)
        self.assertEqual(plot_text(run_deed(PLOT, deed)), text)
        self.assertEqual(plot_text(PLOT), "5a(2b,9c(1d)),7e")

    def refused(self, t, deed, reason):
        self.assertEqual(refusal_of(t, deed), reason, deed)
        for call in (run_deed, back_deed):
            with self.assertRaises(Refusal) as caught:
                call(t, deed)
            self.assertEqual((caught.exception.deed, caught.exception.reason), (deed, reason))

    def test_add(self):
        self.behind(("add", 3, "x", 0, 0), "3x,5a(2b,9c(1d)),7e")
        self.behind(("add", 3, "x", 0, 5), "5a(2b,9c(1d)),3x,7e")
        self.behind(("add", 3, "x", 0, 7), "5a(2b,9c(1d)),7e,3x")
        self.behind(("add", 3, "x", 5, 0), "5a(3x,2b,9c(1d)),7e")
        self.behind(("add", 3, "x", 5, 2), "5a(2b,3x,9c(1d)),7e")
        self.behind(("add", 3, "x", 1, 0), "5a(2b,9c(1d(3x))),7e")
        self.assertEqual(run_deed((), ("add", 3, "x", 0, 0)), ((3, "x", ()),))

    def test_drop(self):
        self.behind(("drop", 1), "5a(2b,9c),7e")
        self.behind(("drop", 2), "5a(9c(1d)),7e")
        self.behind(("drop", 7), "5a(2b,9c(1d))")
        self.assertEqual(run_deed(((3, "x", ()),), ("drop", 3)), ())

    def test_move(self):
        self.behind(("move", 9, 0, 0), "9c(1d),5a(2b),7e")
        self.behind(("move", 9, 7, 0), "5a(2b),7e(9c(1d))")
        self.behind(("move", 5, 7, 0), "7e(5a(2b,9c(1d)))")
        self.behind(("move", 2, 5, 9), "5a(9c(1d),2b),7e")
        self.behind(("move", 9, 5, 0), "5a(9c(1d),2b),7e")
        self.behind(("move", 1, 5, 2), "5a(2b,1d,9c),7e")
        self.behind(("move", 7, 0, 0), "7e,5a(2b,9c(1d))")

    def test_move_to_where_it_stands(self):
        for deed in (("move", 9, 5, 2), ("move", 2, 5, 0), ("move", 5, 0, 0), ("move", 7, 0, 5), ("move", 1, 9, 0)):
            self.behind(deed, "5a(2b,9c(1d)),7e")
            self.assertEqual(back_deed(PLOT, deed), deed)

    def test_word(self):
        self.behind(("word", 9, "x"), "5a(2b,9x(1d)),7e")
        self.behind(("word", 5, "a"), "5a(2b,9c(1d)),7e")

    def test_each_refusal(self):
        for deed, reason in (
                (("add", 5, "x", 0, 0), "mark"), (("add", 1, "x", 0, 0), "mark"), (("drop", 3), "mark"),
                (("move", 3, 0, 0), "mark"), (("word", 3, "x"), "mark"), (("add", 3, "x", 4, 0), "parent"),
                (("move", 1, 4, 0), "parent"), (("move", 5, 5, 0), "inside"), (("move", 5, 9, 0), "inside"),
                (("move", 5, 1, 0), "inside"), (("move", 9, 1, 0), "inside"), (("add", 3, "x", 0, 2), "behind"),
                (("add", 3, "x", 5, 7), "behind"), (("add", 3, "x", 0, 4), "behind"), (("add", 3, "x", 0, 3), "behind"),
                (("move", 2, 5, 2), "behind"), (("move", 2, 0, 9), "behind"), (("move", 7, 0, 7), "behind"),
                (("move", 2, 5, 1), "behind"), (("move", 2, 7, 7), "behind"), (("drop", 5), "children"),
                (("drop", 9), "children")):
            self.refused(PLOT, deed, reason)

    def test_which_comes_first(self):
        for deed, reason in (
                (("add", 5, "x", 4, 4), "mark"), (("add", 5, "x", 5, 4), "mark"), (("add", 3, "x", 4, 4), "parent"),
                (("add", 3, "x", 3, 3), "parent"), (("move", 3, 4, 4), "mark"), (("move", 3, 3, 3), "mark"),
                (("move", 1, 4, 1), "parent"), (("move", 5, 5, 5), "inside"), (("move", 5, 9, 4), "inside"),
                (("move", 5, 2, 5), "inside"), (("move", 5, 0, 5), "behind"), (("add", 3, "x", 5, 3), "behind")):
            self.refused(PLOT, deed, reason)

    def test_empty(self):
        for deed in (("drop", 1), ("move", 1, 0, 0), ("move", 1, 2, 3), ("word", 1, "x")):
            self.refused((), deed, "mark")
        self.refused((), ("add", 1, "x", 2, 0), "parent")
        self.refused((), ("add", 1, "x", 1, 0), "parent")
        self.refused((), ("add", 1, "x", 0, 2), "behind")
        self.refused((), ("add", 1, "x", 0, 1), "behind")

    def compare(self, t, deed):
        board = Board(t)
        reason = board.refusal(deed)
        if reason is not None:
            self.refused(t, deed, reason)
            return reason
        board.run(deed)
        behind = run_deed(t, deed)
        self.assertEqual(behind, board.plot())
        self.assertTrue(is_plot(behind))
        self.assertIs(refusal_of(t, deed), None)
        back = back_deed(t, deed)
        self.assertEqual(back[:2], ({"add": "drop", "drop": "add"}.get(deed[0], deed[0]), deed[1]))
        self.assertIs(is_deed(back), True)
        self.assertEqual(run_deed(behind, back), t)
        return deed[0]

    def test_all_deeds_on_small_plots(self):
        met = {}
        for t in random_plots(151, 60, 4):
            for deed in all_deeds(tuple(sorted(marks_of(t))) + (99,)):
                result = self.compare(t, deed)
                met[result] = met.get(result, 0) + 1
        self.assertEqual(sorted(met), sorted(KINDS + ("mark", "parent", "inside", "behind", "children")))

    def test_full_size(self):
        for text in FULL_PLOT_TEXTS:
            t = read_plot(text)
            marks = marks_of(t)
            for deed in all_deeds((marks[0], marks[5], marks[11], 77)):
                self.compare(t, deed)

    def test_beyond_the_sizes(self):
        # A thirteenth spot, and a thirteenth level.
        t = read_plot(FULL_PLOT_TEXTS[0])
        self.assertEqual(len(marks_of(run_deed(t, ("add", 13, "x", 12, 0)))), 13)
        deep = ()
        for k in range(1, 20):
            deep = run_deed(deep, ("add", k, "x", k - 1, 0))
        self.assertEqual(marks_of(deep), tuple(range(1, 20)))
        self.assertEqual(marks_of(run_deed(deep, ("add", HUGE, "x", 0, 1))), tuple(range(1, 20)) + (HUGE,))


class BackDeed(unittest.TestCase):
    def test_ordinary(self):
        self.assertEqual(back_deed(PLOT, ("add", 3, "x", 5, 2)), ("drop", 3))
        self.assertEqual(back_deed(PLOT, ("drop", 1)), ("add", 1, "d", 9, 0))
        self.assertEqual(back_deed(PLOT, ("drop", 7)), ("add", 7, "e", 0, 5))
        self.assertEqual(back_deed(PLOT, ("move", 9, 0, 7)), ("move", 9, 5, 2))
        self.assertEqual(back_deed(PLOT, ("move", 2, 5, 9)), ("move", 2, 5, 0))
        self.assertEqual(back_deed(PLOT, ("word", 9, "x")), ("word", 9, "c"))
        self.assertEqual(back_deed(PLOT, ("word", 9, "c")), ("word", 9, "c"))


class Errors(unittest.TestCase):
    def test_in_order(self):
        for call in (run_deed, refusal_of, back_deed):
            for value in NO_PLOTS:
                for deed in (None, ("drop", 0), ("drop", 4), ("drop", 5)):
                    with self.assertRaises(InvalidPlot) as caught:
                        call(value, deed)
                    self.assertIs(caught.exception.value, value)
            for deed in NO_DEEDS + NOTHINGS:
                for t in (PLOT, ()):
                    with self.assertRaises(InvalidScript) as caught:
                        call(t, deed)
                    self.assertIs(caught.exception.value, deed)
