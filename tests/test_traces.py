"""Promise 16: traces, and the place scripts of matchings."""

import random
import unittest
from itertools import product

from graftbook.distances import first_matching, forest_distance, least_matching
from graftbook.errors import InvalidForest, InvalidMatching, InvalidPath, InvalidPrices, InvalidScript
from graftbook.foresttext import forest_text, read_forest
from graftbook.matchings import all_matchings, is_matching, matching_price
from graftbook.prices import is_chained
from graftbook.steps import run_steps, steps_price
from graftbook.traces import least_steps, steps_of, steps_shortened, trace_of
from tests.samples import (ALL_PRICES, EVEN, FREE, FULL, NOTHINGS, SKEW, random_forest, random_pairs, random_prices,
                           relabelled, shapes, slow_nodes, slow_part, slow_words, spoilt, unlike_words)
from tests.test_matchings import NO_MATCHINGS
from tests.test_steps import NO_FIT, NO_STEPS, random_script, random_scripts

TREE = read_forest("a(b,c(d))")
OTHER = read_forest("a(b,d)")
STEPS_TREE = read_forest("a(b,c(d,e)),f")


def slow_trace(a, steps):
    """Each node of a gets a word of its own, which is never changed, and is found again by it."""
    words = unlike_words(len(slow_nodes(a)))
    kept = [step[:3] + ("x",) if step[0] == "add" else step for step in steps if step[0] != "change"]
    behind = slow_words(run_steps(relabelled(a, words), kept))
    return tuple((words.index(word), k) for k, word in enumerate(behind) if word != "x")


class Trace(unittest.TestCase):
    def test_ordinary(self):
        self.assertEqual(trace_of(TREE, ()), ((0, 0), (1, 1), (2, 2), (3, 3)))
        self.assertEqual(trace_of(TREE, [("drop", (0, 1))]), ((0, 0), (1, 1), (3, 2)))
        self.assertEqual(trace_of(TREE, [("drop", (0,))]), ((1, 0), (2, 1), (3, 2)))
        self.assertEqual(trace_of(TREE, [("add", (0, 1), 1, "x")]), ((0, 0), (1, 1), (2, 3), (3, 4)))
        self.assertEqual(trace_of(TREE, [("add", (0,), 0, "x")]), ((0, 1), (1, 2), (2, 3), (3, 4)))
        self.assertEqual(trace_of(TREE, [("add", (1,), 0, "x")]), ((0, 0), (1, 1), (2, 2), (3, 3)))
        self.assertEqual(trace_of(TREE, [("change", (0, 0), "x")]), ((0, 0), (1, 1), (2, 2), (3, 3)))

    def test_dropped_and_added_again(self):
        steps = [("drop", (0, 1)), ("add", (0, 1), 1, "c")]
        self.assertEqual(run_steps(TREE, steps), TREE)
        self.assertEqual(trace_of(TREE, steps), ((0, 0), (1, 1), (3, 3)))
        self.assertEqual(trace_of(read_forest("a"), [("add", (0,), 0, "a"), ("drop", (1,))]), ())
        self.assertEqual(trace_of(read_forest("a"), [("add", (0,), 0, "a"), ("drop", (0,))]), ((0, 0),))

    def test_empty(self):
        self.assertEqual(trace_of((), ()), ())
        self.assertEqual(trace_of((), [("add", (0,), 0, "x")]), ())
        self.assertEqual(trace_of(read_forest("a"), (("drop", (0,)),)), ())

    def test_by_definition(self):
        for a, steps in random_scripts(41, 300):
            found = trace_of(a, steps)
            self.assertEqual(found, slow_trace(a, steps))
            self.assertEqual(trace_of(a, tuple(steps)), found)
            self.assertTrue(is_matching(found, a, run_steps(a, steps)))

    def test_full_size(self):
        rng = random.Random(42)
        for a in FULL:
            steps = random_script(rng, a, 30)
            self.assertEqual(len(steps), 30)
            self.assertEqual(trace_of(a, steps), slow_trace(a, steps))


class StepsOf(unittest.TestCase):
    def test_ordinary(self):
        self.assertEqual(steps_of(TREE, OTHER, ((0, 0), (1, 1), (3, 2))), (("drop", (0, 1)),))
        self.assertEqual(steps_of(OTHER, TREE, ((0, 0), (1, 1), (2, 3))), (("add", (0, 1), 1, "c"),))
        self.assertEqual(steps_of(TREE, OTHER, ((0, 1),)), (
            ("change", (0,), "b"), ("drop", (0, 1, 0)), ("drop", (0, 1)), ("drop", (0, 0)),
            ("add", (0,), 1, "a"), ("add", (0, 1), 0, "d")))
        self.assertEqual(steps_of(TREE, OTHER, ((1, 1), (2, 2))), (
            ("change", (0, 1), "d"), ("drop", (0, 1, 0)), ("drop", (0,)), ("add", (0,), 2, "a")))

    def test_no_pairs(self):
        self.assertEqual(steps_of((), (), ()), ())
        self.assertEqual(steps_of(OTHER, (), ()), (("drop", (0, 1)), ("drop", (0, 0)), ("drop", (0,))))
        self.assertEqual(steps_of((), OTHER, ()), (
            ("add", (0,), 0, "a"), ("add", (0, 0), 0, "b"), ("add", (0, 1), 0, "d")))

    def stages(self, a, b, matching):
        """The forests on the way, by the words of the document, all words of a and b being unlike."""
        words = slow_words(a)
        found = [a]
        for i, j in matching:
            words[i] = slow_words(b)[j]
            found.append(relabelled(a, words))
        there = list(range(len(words)))
        for i in reversed(range(len(words))):
            if i not in [first for first, _ in matching]:
                there.remove(i)
                found.append(slow_part(relabelled(a, words), there))
        there = [j for _, j in matching]
        for j in range(len(slow_words(b))):
            if j not in there:
                there.append(j)
                found.append(slow_part(b, there))
        return found

    def compare(self, a, b, matching):
        c = relabelled(a, unlike_words(len(slow_words(a))))
        d = relabelled(b, unlike_words(len(slow_words(b)), "b"))
        steps = steps_of(c, d, matching)
        self.assertEqual([run_steps(c, steps[:k]) for k in range(len(steps) + 1)], self.stages(c, d, matching))
        kinds = [step[0] for step in steps]
        self.assertEqual(kinds, sorted(kinds, key=("change", "drop", "add").index))
        # With the words of a and b the steps are the same ones, but for needless changes.
        words, others = slow_words(a), slow_words(b)
        by_words = dict(zip(slow_words(d), others))
        right = [step[:-1] + (by_words[step[-1]],) if step[0] != "drop" else step for step in steps]
        changes = [k for k, (i, j) in enumerate(matching) if words[i] == others[j]]
        right = tuple(step for k, step in enumerate(right) if k not in changes)
        self.assertEqual(steps_of(a, b, matching), right)
        self.assertEqual(run_steps(a, right), b)
        self.assertEqual(trace_of(a, right), matching)
        for prices in ALL_PRICES:
            self.assertEqual(steps_price(a, right, prices), matching_price(a, b, prices, matching))

    def test_small_shapes(self):
        forests = [a for size in range(4) for a in shapes(size)]
        for a, b in product(forests, forests):
            for matching in all_matchings(a, b):
                self.compare(a, b, matching)

    def test_random(self):
        for a, b in random_pairs(43, 25, 5):
            for matching in all_matchings(a, b):
                self.compare(a, b, matching)

    def test_full_size(self):
        for k, (a, b) in enumerate(product(FULL, FULL)):
            self.compare(a, b, least_matching(a, b, ALL_PRICES[k % 4]))
            self.compare(a, b, ())
            self.compare(a, b, least_matching(a, b, (5, 5, 0, ())))


class Prices(unittest.TestCase):
    def test_no_script_is_cheaper_than_its_trace(self):
        chained = 0
        for k, (a, steps) in enumerate(random_scripts(44, 500)):
            prices = random_prices(k, "abcx") if k % 3 else EVEN
            words = slow_words(a) + [step[-1] for step in steps if step[0] != "drop"]
            if is_chained(prices, words):
                chained += 1
                b = run_steps(a, steps)
                price = matching_price(a, b, prices, trace_of(a, steps))
                self.assertLessEqual(price, steps_price(a, steps, prices))
                self.assertGreaterEqual(price, forest_distance(a, b, prices))
        self.assertGreater(chained, 200)

    def test_prices_that_are_not_chained(self):
        # The price of the script of a matching is that of the matching nevertheless.
        a = read_forest("a")
        by_c = (5, 5, 9, (("a", "c", 0), ("c", "b", 0)))
        detour = [("change", (0,), "c"), ("change", (0,), "b")]
        self.assertEqual(steps_price(a, detour, by_c), 0)
        self.assertEqual(matching_price(a, read_forest("b"), by_c, trace_of(a, detour)), 9)
        self.assertEqual(steps_price(a, steps_shortened(a, detour), by_c), 9)


class LeastSteps(unittest.TestCase):
    def test_ordinary(self):
        self.assertEqual(least_steps(TREE, OTHER, EVEN), (("drop", (0, 1)),))
        self.assertEqual(least_steps(OTHER, TREE, EVEN), (("add", (0, 1), 1, "c"),))
        self.assertEqual(least_steps((), (), EVEN), ())
        self.assertEqual(least_steps(TREE, TREE, EVEN), ())

    def test_the_first_of_several(self):
        # Both nodes of the first may become the second's one; the first matching pairs the upper one.
        self.assertEqual(least_steps(read_forest("a(a)"), read_forest("a"), EVEN), (("drop", (0, 0)),))
        # Where all is free, the empty matching is the first.
        self.assertEqual(least_steps(read_forest("a"), read_forest("a"), FREE), (
            ("drop", (0,)), ("add", (0,), 0, "a")))

    def test_by_definition(self):
        for k, (a, b) in enumerate(random_pairs(45, 60, 5)):
            for prices in (ALL_PRICES[k % 4], random_prices(k)):
                steps = least_steps(a, b, prices)
                self.assertEqual(steps, steps_of(a, b, first_matching(a, b, prices)))
                self.assertEqual(run_steps(a, steps), b)
                self.assertEqual(steps_price(a, steps, prices), forest_distance(a, b, prices))


class Shortened(unittest.TestCase):
    def test_ordinary(self):
        steps = [("change", (0,), "x"), ("add", (0, 0), 1, "y"), ("change", (0,), "a"), ("drop", (0, 0))]
        self.assertEqual(steps_shortened(TREE, steps), ())
        twice = [("change", (0,), "x"), ("change", (0,), "y"), ("drop", (0, 1))]
        self.assertEqual(steps_shortened(TREE, twice), (("change", (0,), "y"), ("drop", (0, 1))))
        self.assertEqual(steps_shortened(TREE, ()), ())
        self.assertEqual(steps_shortened((), [("add", (0,), 0, "x"), ("drop", (0,))]), ())
        again = [("drop", (0, 1)), ("add", (0, 1), 1, "c")]
        self.assertEqual(steps_shortened(TREE, again), tuple(again))

    def test_by_definition(self):
        for a, steps in random_scripts(46, 200):
            b = run_steps(a, steps)
            short = steps_shortened(a, steps)
            self.assertEqual(short, steps_of(a, b, trace_of(a, steps)))
            self.assertEqual(run_steps(a, short), b)
            self.assertEqual(trace_of(a, short), trace_of(a, steps))
            self.assertLessEqual(len(short), len(steps))
            self.assertLessEqual(steps_price(a, short, EVEN), steps_price(a, steps, EVEN))

    def test_thirty_steps(self):
        steps = [("add", (0,), 0, "x"), ("drop", (0,))] * 15
        self.assertEqual(steps_shortened(FULL[0], steps), ())


class Errors(unittest.TestCase):
    def test_steps(self):
        for call in (trace_of, steps_shortened):
            for step in NO_STEPS + NOTHINGS:
                with self.assertRaises(InvalidScript) as caught:
                    call(STEPS_TREE, (("drop", (1,)), step, ("drop", (7,))))
                self.assertIs(caught.exception.value, step)
            for step in NO_FIT:
                with self.assertRaises(InvalidPath) as caught:
                    call(STEPS_TREE, [("change", (1,), "x"), step, None])
                self.assertIs(caught.exception.path, step[1])
            for value in NOTHINGS:
                with self.assertRaises(InvalidForest) as caught:
                    call(value, (None,))
                self.assertIs(caught.exception.value, value)

    def test_matchings(self):
        for value in NO_MATCHINGS + NOTHINGS + tuple(spoilt(((0, 0), (1, 1), (3, 2)))):
            with self.assertRaises(InvalidMatching) as caught:
                steps_of(TREE, OTHER, value)
            self.assertIs(caught.exception.value, value)

    def test_forests_ahead_of_all_else(self):
        for value in NOTHINGS:
            for call in (lambda a, b: steps_of(a, b, None), lambda a, b: least_steps(a, b, None)):
                for a, b, wrong in ((value, None, 0), (TREE, value, 1)):
                    with self.assertRaises(InvalidForest) as caught:
                        call(a, b)
                    self.assertIs(caught.exception.value, (a, b)[wrong])
            with self.assertRaises(InvalidPrices) as caught:
                least_steps(TREE, OTHER, value)
            self.assertIs(caught.exception.value, value)

    def test_arguments_kept(self):
        steps = [("drop", (0, 1)), ("add", (0,), 1, "c")]
        trace_of(TREE, steps)
        steps_shortened(TREE, steps)
        self.assertEqual(steps, [("drop", (0, 1)), ("add", (0,), 1, "c")])

    def test_texts(self):
        rng = random.Random(47)
        a = random_forest(rng, 5)
        self.assertEqual(forest_text(run_steps(a, steps_of(a, TREE, ()))), "a(b,c(d))")
        self.assertEqual(steps_price(a, steps_of(a, TREE, ()), SKEW), 5 * 2 + 4 * 3)
