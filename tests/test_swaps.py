"""Promise 35: swap papers."""

import random
import unittest
from itertools import product

from graftbook.errors import InvalidScript, Refusal, Undefined
from graftbook.histories import in_order, orders_of, same_deeds
from graftbook.swaps import swaps_between, swaps_hold
from tests.boards import NO_DEEDS, random_script, runs, slow_both, spoilt_scripts
from tests.samples import HUGE, NOTHINGS, nested

HISTORY = (("add", 1, "a", 0, 0), ("add", 2, "b", 1, 0), ("word", 1, "x"), ("word", 2, "y"), ("add", 3, "c", 1, 2))
TURNED = (HISTORY[0], HISTORY[2], HISTORY[1], HISTORY[4], HISTORY[3])
ROUNDABOUT = (
    ("add", 5, "a", 0, 0), ("add", 2, "a", 0, 5), ("add", 3, "a", 0, 2), ("move", 2, 0, 0), ("drop", 5))


def slow_holds(history, other, paper):
    deeds = list(history)
    for k in paper:
        if k + 1 >= len(deeds):
            return False
        if slow_both(runs((), deeds[:k]), (deeds[k],), (deeds[k + 1],)) is None:
            return False
        deeds[k:k + 2] = [deeds[k + 1], deeds[k]]
    return deeds == list(other)


def slow_least(history, other, most):
    """The least length of a swap paper, by all papers of up to so many numbers."""
    for length in range(most + 1):
        for paper in product(range(max(len(history) - 1, 0)), repeat=length):
            if slow_holds(history, other, paper):
                return length
    return None


class SwapsBetween(unittest.TestCase):
    def test_ordinary(self):
        paper = swaps_between(HISTORY, TURNED)
        self.assertEqual(sorted(paper), [1, 3])
        self.assertIs(swaps_hold(HISTORY, TURNED, paper), True)
        self.assertEqual(swaps_between(HISTORY, HISTORY), ())
        self.assertEqual(swaps_between(list(HISTORY), HISTORY), ())
        self.assertEqual(swaps_between((), []), ())
        self.assertEqual(len(swaps_between(list(TURNED), list(HISTORY))), 2)

    def test_equal_deeds(self):
        # Deeds that are equal need not be swapped, though they may.
        a, x, y = ("add", 1, "a", 0, 0), ("word", 1, "x"), ("word", 1, "x")
        self.assertEqual(swaps_between((a, x, y), (a, y, x)), ())
        self.assertIs(swaps_hold((a, x, y), (a, y, x), ()), True)
        self.assertIs(swaps_hold((a, x, y), (a, y, x), (1,)), True)
        self.assertIs(swaps_hold((a, x, y), (a, y, x), (1, 1)), True)
        self.assertIs(swaps_hold((a, x, y), (a, y, x), (0,)), False)

    def test_a_roundabout_way(self):
        other = in_order(ROUNDABOUT, (0, 1, 3, 2, 4))
        paper = swaps_between(ROUNDABOUT, other)
        self.assertIs(swaps_hold(ROUNDABOUT, other, paper), True)
        self.assertIs(swaps_hold(ROUNDABOUT, other, (2,)), False)
        self.assertEqual(len(paper), 5)

    def test_least_length(self):
        # Four deeds that are free and unlike: each two that stand the other way round take one swap.
        history = (("add", 1, "a", 0, 0), ("word", 1, "x"), ("add", 2, "b", 1, 0), ("move", 1, 0, 0), ("add", 3, "c", 0, 1))
        orders = orders_of(history)
        self.assertEqual(len(orders), 24)
        for order, other in product(orders[::5], orders):
            places = [other.index(i) for i in order]
            least = sum(places[i] > places[k] for k in range(5) for i in range(k))
            paper = swaps_between(in_order(history, order), in_order(history, other))
            self.assertEqual(len(paper), least)
            self.assertIs(slow_holds(in_order(history, order), in_order(history, other), paper), True)

    def test_undefined(self):
        a, b = ("add", 1, "a", 0, 0), ("add", 2, "b", 0, 0)
        for history, other in (
                ((a, b), (b, a)), (HISTORY, HISTORY[:4]), (HISTORY[:4], HISTORY), ((), (a,)), ((a,), ()), ((a,), (b,)),
                (HISTORY, HISTORY[:4] + (("add", 3, "d", 1, 2),)), ((a, ("word", 1, "b")), (("add", 1, "b", 0, 0),))):
            with self.assertRaises(Undefined) as caught:
                swaps_between(history, other)
            self.assertEqual(caught.exception.what, "swaps")
            self.assertIs(swaps_hold(history, other, ()), False)

    def test_by_definition(self):
        rng = random.Random(281)
        longest = 0
        for _ in range(60):
            history = random_script(rng, (), 5, (1, 2, 3, 4))
            for order in orders_of(history)[:6]:
                other = in_order(history, order)
                paper = swaps_between(history, other)
                self.assertIs(slow_holds(history, other, paper), True)
                self.assertIs(swaps_hold(history, other, paper), True)
                self.assertIs(swaps_hold(other, history, paper[::-1]), True)
                if len(paper) < 5:
                    self.assertEqual(slow_least(history, other, len(paper)), len(paper))
                longest = max(longest, len(paper))
        self.assertGreater(longest, 1)

    def test_just_if_same_deeds(self):
        rng = random.Random(282)
        for _ in range(100):
            history = random_script(rng, (), 4, (1, 2))
            other = tuple(rng.sample(history, len(history)))
            if runs((), other) is None:
                continue
            if same_deeds(history, other):
                self.assertIs(swaps_hold(history, other, swaps_between(history, other)), True)
            else:
                with self.assertRaises(Undefined):
                    swaps_between(history, other)


class SwapsHold(unittest.TestCase):
    def test_by_definition(self):
        for history, other in ((HISTORY, TURNED), (HISTORY, HISTORY), (ROUNDABOUT, in_order(ROUNDABOUT, (0, 1, 3, 2, 4)))):
            for length in range(6):
                for paper in product(range(4), repeat=length):
                    self.assertIs(swaps_hold(history, other, paper), slow_holds(history, other, paper))

    def test_changed_in_one_place(self):
        paper = swaps_between(HISTORY, TURNED)
        for at in range(len(paper)):
            for value in (0, 1, 2, 3, 4, 5, -1, HUGE, True, None, "1", (1,), [1]):
                changed = paper[:at] + (value,) + paper[at + 1:]
                right = changed == paper and value is not True
                self.assertIs(swaps_hold(HISTORY, TURNED, changed), right)

    def test_any_value(self):
        for value in NOTHINGS + ((4,), (5,), (-1,), (HUGE,), (1, 3, 1, 1, True), [1, 3], ((1, 3),), "13"):
            self.assertIs(swaps_hold(HISTORY, TURNED, value), False, value)
        self.assertIs(swaps_hold(HISTORY, TURNED, nested(59)), False)

    def test_long_papers(self):
        self.assertIs(swaps_hold(HISTORY, HISTORY, (1, 3) * 2000), True)
        self.assertIs(swaps_hold(HISTORY, TURNED, (1, 3) * 2000), False)
        self.assertIs(swaps_hold(HISTORY, TURNED, (1, 3) * 1999 + (3, 3, 1, 1)), True)
        self.assertIs(swaps_hold(HISTORY, HISTORY, (1, 3) * 1999 + (1, 4)), False)


class Errors(unittest.TestCase):
    def test_no_histories(self):
        refused, other = HISTORY[:2] + (("drop", 1),), (("drop", 9),)
        for history, second, deed, reason in (
                (refused, other, ("drop", 1), "children"), (HISTORY, other, ("drop", 9), "mark"),
                (other, refused, ("drop", 9), "mark"), ([], list(refused), ("drop", 1), "children")):
            for call in (swaps_between, lambda h, o: swaps_hold(h, o, None)):
                with self.assertRaises(Refusal) as caught:
                    call(history, second)
                self.assertEqual((caught.exception.deed, caught.exception.reason), (deed, reason))

    def test_no_deeds_ahead_of_refusals(self):
        for wrong, value in spoilt_scripts((("drop", 1), HISTORY[0]), NO_DEEDS + NOTHINGS):
            for call in (swaps_between, lambda h, o: swaps_hold(h, o, None)):
                for history, other in ((wrong, ()), (wrong, (False,)), ((("drop", 9),), wrong), (HISTORY, wrong)):
                    with self.assertRaises(InvalidScript) as caught:
                        call(history, other)
                    self.assertIs(caught.exception.value, value)
