"""Promise 33: orders of histories."""

import random
import unittest
from itertools import permutations

from graftbook.errors import InvalidScript, Refusal, Undefined
from graftbook.histories import in_order, is_order, normal, orders_of, same_deeds
from graftbook.merges import are_free
from graftbook.scripts import run
from tests.boards import NO_DEEDS, random_script, slow_orders, spoilt_scripts
from tests.samples import HUGE, NOTHINGS

# Deeds 1 and 2 need 0, and 3 goes with all.
HISTORY = (("add", 1, "a", 0, 0), ("add", 2, "b", 1, 0), ("word", 1, "x"), ("word", 2, "y"), ("add", 3, "c", 1, 2))
# Deeds 2 and 3 are not free where they stand: 5 stands between 2 and 3 in one order alone. They are
# free behind the drop, which may stand ahead of both.
ROUNDABOUT = (
    ("add", 5, "a", 0, 0), ("add", 2, "a", 0, 5), ("add", 3, "a", 0, 2), ("move", 2, 0, 0), ("drop", 5))
DROPPED = (("add", 1, "a", 0, 0), ("drop", 1))
MARKS = (1, 2, 3, 4)


def histories(seed, many, most=5):
    rng = random.Random(seed)
    for _ in range(many):
        yield random_script(rng, (), most, MARKS)


def deeds_by(history, order):
    return tuple(history[i] for i in order)


class OrdersOf(unittest.TestCase):
    def test_ordinary(self):
        self.assertEqual(orders_of(HISTORY[:3]), ((0, 1, 2), (0, 2, 1)))
        self.assertEqual(orders_of(list(HISTORY[:2])), ((0, 1),))
        self.assertEqual(orders_of((("add", 1, "a", 0, 0), ("add", 2, "b", 0, 1))), ((0, 1),))
        self.assertEqual(orders_of((("add", 1, "a", 0, 0), ("add", 2, "b", 0, 0))), ((0, 1),))
        self.assertEqual(orders_of(DROPPED), ((0, 1),))
        same = (("add", 1, "a", 0, 0), ("word", 1, "x"), ("word", 1, "x"))
        self.assertEqual(orders_of(same), ((0, 1, 2), (0, 2, 1)))

    def test_empty(self):
        for history in ((), []):
            self.assertEqual(orders_of(history), ((),))
            self.assertEqual(normal(history), ())
            self.assertIs(is_order(history, ()), True)
            self.assertEqual(in_order(history, ()), ())
            self.assertIs(same_deeds(history, history), True)

    def test_by_definition(self):
        many = 0
        for history in histories(261, 150):
            orders = slow_orders(history)
            self.assertEqual(orders_of(history), orders)
            self.assertEqual(orders_of(list(history)), orders)
            many = max(many, len(orders))
        self.assertGreater(many, 5)

    def test_all_orders_lead_to_one_plot(self):
        for history in histories(262, 100):
            behind = run((), history)
            for order in orders_of(history):
                self.assertEqual(run((), in_order(history, order)), behind)

    def test_full_size(self):
        # As many orders as five deeds can have, four of them being free.
        words = (("add", 1, "a", 0, 0),) + (("word", 1, "x"),) * 4
        self.assertEqual(orders_of(words), tuple((0,) + order for order in permutations((1, 2, 3, 4))))

    def test_neighbours_that_change_places_by_way_of_others(self):
        self.assertIs(are_free(run((), ROUNDABOUT[:2]), ROUNDABOUT[2], ROUNDABOUT[3]), False)
        orders = orders_of(ROUNDABOUT)
        self.assertEqual(orders, slow_orders(ROUNDABOUT))
        self.assertIn((0, 1, 3, 2, 4), orders)
        self.assertIs(is_order(ROUNDABOUT, (0, 1, 3, 2, 4)), True)
        for order in orders:
            self.assertEqual(run((), deeds_by(ROUNDABOUT, order)), run((), ROUNDABOUT))
        self.assertIs(same_deeds(ROUNDABOUT, deeds_by(ROUNDABOUT, (0, 1, 3, 2, 4))), True)
        self.assertEqual(orders_of(ROUNDABOUT[:4]), ((0, 1, 2, 3),))


class IsOrder(unittest.TestCase):
    def test_by_definition(self):
        for history in histories(264, 60, 4):
            orders = slow_orders(history)
            for order in permutations(range(len(history))):
                self.assertIs(is_order(history, order), order in orders)

    def test_any_value(self):
        history = HISTORY[:3]
        self.assertIs(is_order(history, (0, 2, 1)), True)
        for value in NOTHINGS + ((False, True, 2), (0, True, 2), [0, 1, 2], (0, 1), (0, 1, 2, 2), (0, 1, 1), (1, 0, 2),
                                 (0, 1, 3), (-1, 0, 1), (0, 1, HUGE), ((0,), 1, 2), ("0", 1, 2), (0, 1, None), (),
                                 (0, 1, 2, 3), (0, [1], 2), history):
            self.assertIs(is_order(history, value), False, value)
            with self.assertRaises(Undefined) as caught:
                in_order(history, value)
            self.assertEqual(caught.exception.what, "order")


class InOrder(unittest.TestCase):
    def test_ordinary(self):
        self.assertEqual(in_order(HISTORY, (0, 2, 1, 3, 4)), deeds_by(HISTORY, (0, 2, 1, 3, 4)))
        self.assertEqual(in_order(list(HISTORY), (0, 1, 2, 3, 4)), HISTORY)
        for history in histories(265, 40):
            for order in slow_orders(history):
                self.assertEqual(in_order(history, order), deeds_by(history, order))


class Normal(unittest.TestCase):
    def test_ordinary(self):
        self.assertEqual(normal(HISTORY), HISTORY[:2] + HISTORY[4:] + HISTORY[2:4])
        self.assertEqual(normal([("add", 1, "a", 0, 0), ("word", 1, "y"), ("drop", 1)]), (
            ("add", 1, "a", 0, 0), ("word", 1, "y"), ("drop", 1)))

    def test_by_definition(self):
        for history in histories(266, 100):
            forms = [deeds_by(history, order) for order in slow_orders(history)]
            self.assertEqual(normal(history), min(forms))
            for form in forms:
                self.assertEqual(normal(form), min(forms))
                self.assertIs(same_deeds(history, form), True)


class SameDeeds(unittest.TestCase):
    def test_ordinary(self):
        self.assertIs(same_deeds(HISTORY, in_order(HISTORY, (0, 2, 1, 3, 4))), True)
        self.assertIs(same_deeds(list(HISTORY), HISTORY), True)
        self.assertIs(same_deeds(HISTORY, HISTORY[:4]), False)
        # One plot, other deeds; the same deeds, another plot; the same deeds and plot, but no swaps.
        self.assertIs(same_deeds((("add", 1, "a", 0, 0), ("word", 1, "b")), (("add", 1, "b", 0, 0),)), False)
        first, second = ("add", 1, "a", 0, 0), ("add", 2, "a", 0, 0)
        self.assertIs(same_deeds((first, second), (second, first)), False)
        words = (("word", 1, "x"), ("word", 1, "y"), ("word", 1, "x"))
        self.assertEqual(run((), (first,) + words), run((), (first, words[1], words[0], words[2])))
        self.assertIs(same_deeds((first,) + words, (first, words[1], words[0], words[2])), False)

    def test_by_definition(self):
        rng = random.Random(267)
        for history in histories(267, 80, 4):
            forms = [deeds_by(history, order) for order in slow_orders(history)]
            for order in rng.sample(list(permutations(history)), min(6, len(list(permutations(history))))):
                try:
                    behind = run((), order)
                except Refusal:
                    continue
                self.assertIs(same_deeds(history, order), order in forms)
                self.assertIs(same_deeds(order, history), order in forms)
                if order in forms:
                    self.assertEqual(behind, run((), history))


REFUSED = (
    ((("drop", 1),), ("drop", 1), "mark"),
    ((("add", 1, "a", 0, 0), ("add", 2, "b", 1, 1), ("drop", 9)), ("add", 2, "b", 1, 1), "behind"),
    ((("add", 1, "a", 0, 0), ("add", 2, "b", 1, 0), ("drop", 1)), ("drop", 1), "children"),
)
CALLS = (orders_of, normal, lambda history: is_order(history, None), lambda history: in_order(history, None),
         lambda history: same_deeds(history, HISTORY), lambda history: same_deeds(HISTORY, history),
         lambda history: same_deeds(history, (("drop", 77),)))


class Errors(unittest.TestCase):
    def test_no_histories(self):
        for call in CALLS:
            for history, deed, reason in REFUSED:
                with self.assertRaises(Refusal) as caught:
                    call(history)
                self.assertEqual((caught.exception.deed, caught.exception.reason), (deed, reason))

    def test_no_deeds_ahead_of_refusals(self):
        for wrong, value in spoilt_scripts((("drop", 1), ("add", 1, "a", 0, 0)), NO_DEEDS + NOTHINGS):
            for call in CALLS + (lambda history: same_deeds((("drop", 9),), history),):
                with self.assertRaises(InvalidScript) as caught:
                    call(wrong)
                self.assertIs(caught.exception.value, value)
        with self.assertRaises(InvalidScript) as caught:
            same_deeds((("drop", 9), None), (False,))
        self.assertIs(caught.exception.value, None)
