"""Promise 34: what deeds need, layers, deeds picked out of others, a deed undone."""

import random
import unittest
from itertools import combinations, permutations

from graftbook.errors import InvalidNumber, InvalidScript, Refusal, Undefined
from graftbook.picks import layers, needs, picked, without
from graftbook.plottext import plot_text
from graftbook.scripts import run
from tests.boards import NO_DEEDS, random_script, runs, slow_orders, spoilt_scripts
from tests.samples import HUGE, NOTHINGS

HISTORY = (("add", 1, "a", 0, 0), ("add", 2, "b", 1, 0), ("word", 1, "x"), ("word", 2, "y"), ("add", 3, "c", 1, 2))
# Two things that stand side by side come in one sequence alone.
ROW = (("add", 1, "a", 0, 0), ("add", 2, "b", 0, 0), ("word", 1, "x"), ("drop", 2))
# The last two give one plot in both orders, with deed 2 or without.
ROUNDABOUT = (
    ("add", 5, "a", 0, 0), ("add", 2, "a", 0, 5), ("add", 3, "a", 0, 2), ("move", 2, 0, 0), ("drop", 5))


def histories(seed, many, most=5):
    rng = random.Random(seed)
    for _ in range(many):
        yield random_script(rng, (), most, (1, 2, 3, 4))


def slow_needs(history, i):
    orders = slow_orders(history)
    return tuple(k for k in range(len(history)) if k != i and all(
        order.index(k) < order.index(i) for order in orders))


def slow_layers(history):
    """Rows by the longest chains, each deed of a chain needed for the next."""
    longest = {}
    for size in range(len(history)):
        for chain in combinations(range(len(history)), size + 1):
            if all(k in slow_needs(history, i) for k, i in zip(chain, chain[1:])):
                longest[chain[-1]] = size
    rows = max(longest.values(), default=-1) + 1
    return tuple(tuple(i for i in range(len(history)) if longest[i] == row) for row in range(rows))


class Needs(unittest.TestCase):
    def test_ordinary(self):
        self.assertEqual([needs(HISTORY, i) for i in range(5)], [(), (0,), (0,), (0, 1), (0, 1)])
        self.assertEqual([needs(list(ROW), i) for i in range(4)], [(), (0,), (0,), (0, 1)])
        self.assertEqual([needs(ROUNDABOUT, i) for i in range(5)], [(), (0,), (0, 1), (0, 1), (0, 1)])

    def test_by_definition(self):
        for history in histories(271, 100):
            for i in range(len(history)):
                self.assertEqual(needs(history, i), slow_needs(history, i))

    def test_no_numbers(self):
        for history in (HISTORY, ()):
            for i in (-1, len(history), HUGE, -HUGE, True, None, "0", (0,)):
                for call in (needs, without):
                    with self.assertRaises(InvalidNumber) as caught:
                        call(history, i)
                    self.assertIs(caught.exception.value, i)


class Layers(unittest.TestCase):
    def test_ordinary(self):
        self.assertEqual(layers(HISTORY), ((0,), (1, 2), (3, 4)))
        self.assertEqual(layers(list(ROW)), ((0,), (1, 2), (3,)))
        self.assertEqual(layers(ROUNDABOUT), ((0,), (1,), (2, 3, 4)))
        self.assertEqual(layers(()), ())
        self.assertEqual(layers([]), ())
        words = (("add", 1, "a", 0, 0), ("word", 1, "b"), ("word", 1, "c"), ("word", 1, "d"), ("drop", 1))
        self.assertEqual(layers(words), ((0,), (1,), (2,), (3,), (4,)))

    def test_by_definition(self):
        for history in histories(272, 80):
            self.assertEqual(layers(history), slow_layers(history))


class Picked(unittest.TestCase):
    def test_ordinary(self):
        self.assertEqual(plot_text(picked(HISTORY, (0, 2))), "1x")
        self.assertEqual(plot_text(picked(HISTORY, [4, 1, 0])), "1a(2b,3c)")
        self.assertEqual(picked(HISTORY, range_of(HISTORY)), run((), HISTORY))
        self.assertEqual(picked(HISTORY, ()), ())
        self.assertEqual(picked((), []), ())

    def test_undefined(self):
        for history, numbers in ((HISTORY, (1,)), (HISTORY, (0, 3)), (ROW, (1,)), (ROW, [2, 1, 3]), (ROUNDABOUT, (0, 2))):
            with self.assertRaises(Undefined) as caught:
                picked(history, numbers)
            self.assertEqual(caught.exception.what, "pick")

    def test_the_first_of_several_orders(self):
        # 0, 1, 2, 3 and 0, 1, 3, 2 lead to two plots, as the drop that makes them equal is not picked.
        orders = [order for order in slow_orders(ROUNDABOUT) if sorted(order[:4]) == [0, 1, 2, 3]]
        plots = [runs((), [ROUNDABOUT[i] for i in order[:4]]) for order in orders]
        self.assertEqual(len(set(plots)), 2)
        self.assertEqual(picked(ROUNDABOUT, (3, 2, 1, 0)), plots[0])
        self.assertEqual(plot_text(plots[0]), "2a,5a,3a")

    def test_in_another_sequence_alone(self):
        # Both moves are the same deed; the one that stood behind the drop is picked ahead of it.
        history = (("add", 2, "a", 0, 0), ("add", 1, "b", 2, 0), ("move", 1, 0, 0), ("drop", 2), ("move", 1, 0, 0))
        some = [order[:4] for order in slow_orders(history) if set(order[:4]) == {0, 1, 3, 4}]
        self.assertEqual(set(some), {(0, 1, 4, 3)})
        for numbers in permutations((0, 1, 3, 4)):
            self.assertEqual(plot_text(picked(history, numbers)), "1b")

    def test_by_definition(self):
        found = 0
        for history in histories(273, 60):
            orders = slow_orders(history)
            for size in range(len(history) + 1):
                for numbers in combinations(range(len(history)), size):
                    some = [order[:size] for order in orders if set(order[:size]) == set(numbers)]
                    for kind in (tuple, list):
                        if some:
                            found += 1
                            right = runs((), [history[i] for i in some[0]])
                            self.assertEqual(picked(history, kind(numbers[::-1])), right)
                        else:
                            with self.assertRaises(Undefined):
                                picked(history, kind(numbers))
        self.assertGreater(found, 200)

    def test_no_numbers(self):
        for numbers, wrong in (
                ((5,), 5), ((-1,), -1), ((0, 9, -1), 9), ([0, 0], 0), ((1, 2, 1, 9), 1), ((1, 9, 1), 9), ((0, 1, 0), 0),
                ((HUGE,), HUGE), ((3, 3, 3), 3), ((0, True), True)):
            with self.assertRaises(InvalidNumber) as caught:
                picked(HISTORY, numbers)
            self.assertEqual(caught.exception.value, wrong)
        with self.assertRaises(InvalidNumber):
            picked((), (0,))


def range_of(history):
    return tuple(range(len(history)))


class Without(unittest.TestCase):
    def test_ordinary(self):
        self.assertEqual(without(HISTORY, 2), HISTORY[:2] + HISTORY[4:] + HISTORY[3:4])
        self.assertEqual(without(HISTORY, 4), HISTORY[:4])
        self.assertEqual(without(list(HISTORY[:1]), 0), ())
        # Deeds 1 and 2 would be ("add", ..) and ("word", ..); the words come in their own sequence.
        history = (("add", 1, "a", 0, 0), ("word", 1, "y"), ("add", 2, "b", 1, 0), ("word", 2, "c"))
        self.assertEqual(without(history, 1), (history[0], history[2], history[3]))
        self.assertEqual(without(history, 3), (history[0], history[2], history[1]))

    def test_undefined(self):
        for history, i in ((HISTORY, 0), (HISTORY, 1), (ROW, 0), (ROW, 1), (ROUNDABOUT, 0)):
            with self.assertRaises(Undefined) as caught:
                without(history, i)
            self.assertEqual(caught.exception.what, "undo")

    def test_by_definition(self):
        for history in histories(274, 100):
            for i in range(len(history)):
                right = [tuple(history[k] for k in order[:-1]) for order in slow_orders(history) if order[-1] == i]
                if right:
                    self.assertEqual(without(history, i), min(right))
                else:
                    with self.assertRaises(Undefined):
                        without(history, i)


CALLS = (lambda history: needs(history, -1), layers, lambda history: picked(history, (-1,)),
         lambda history: without(history, -1))


class Errors(unittest.TestCase):
    def test_no_histories_ahead_of_numbers(self):
        for call in CALLS:
            with self.assertRaises(Refusal) as caught:
                call(HISTORY[:2] + (("drop", 1), ("drop", 9)))
            self.assertEqual((caught.exception.deed, caught.exception.reason), (("drop", 1), "children"))
            for wrong, value in spoilt_scripts((("drop", 1), HISTORY[0]), NO_DEEDS + NOTHINGS):
                with self.assertRaises(InvalidScript) as caught:
                    call(wrong)
                self.assertIs(caught.exception.value, value)

    def test_full_size(self):
        words = (("add", 1, "a", 0, 0),) + (("word", 1, "x"),) * 4
        self.assertEqual(layers(words), ((0,), (1, 2, 3, 4)))
        for numbers in permutations((0, 3, 4)):
            self.assertEqual(plot_text(picked(words, numbers)), "1x")
