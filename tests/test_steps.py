"""Promise 15: steps and place scripts."""

import random
import unittest

from graftbook.errors import InvalidForest, InvalidPath, InvalidPrices, InvalidScript
from graftbook.foresttext import forest_text, read_forest
from graftbook.steps import run_steps, step_on, steps_back, steps_price
from tests.samples import (ALL_PRICES, EVEN, FULL, HUGE, NOTHINGS, SKEW, random_forest, slow_change, slow_nodes,
                           spoilt)

TREE = read_forest("a(b,c(d,e)),f")

NO_STEPS = (
    None, True, 0, "", "drop", (), [], ("drop",), ("drop", ()), ("drop", [0]), ("drop", 0), ("drop", (0,), "x"),
    ["drop", (0,)], ("drop", (True,)), ("drop", (-1,)), ("drop", (0, None)), ("drop", None),
    ("change", (0,)), ("change", (0,), "X"), ("change", (0,), ""), ("change", (0,), "abcdefghi"),
    ("change", (0,), None), ("change", (0,), ("x",)), ("change", (), "x"), ("change", (0,), "x", "y"),
    ("change", "x", (0,)), ("add", (0,), "x"), ("add", (0,), 0), ("add", (0,), -1, "x"), ("add", (0,), True, "x"),
    ("add", (0,), "x", 0), ("add", (), 0, "x"), ("add", (0,), 0, "x", "y"), ("add", (0,), None, "x"),
    ("add", (0,), 0, "x9"), ("move", (0,), (1,)), ("Drop", (0,)), (("drop",), (0,)), (None, (0,)), ((0,), "drop"),
)

NO_FIT = (
    ("drop", (2,)), ("drop", (0, 2)), ("drop", (0, 0, 0)), ("drop", (1, 0)), ("drop", (HUGE,)),
    ("change", (2,), "x"), ("change", (0, 1, 2), "x"), ("add", (3,), 0, "x"), ("add", (2,), 1, "x"),
    ("add", (0,), 3, "x"), ("add", (1,), 2, "x"), ("add", (0, 3), 0, "x"), ("add", (0, 2), 1, "x"),
    ("add", (2, 0), 0, "x"), ("add", (0, 0, 1), 0, "x"), ("add", (0, 0, 0), 1, "x"), ("add", (0, 2, 0), 0, "x"),
    ("add", (0,), HUGE, "x"), ("add", (HUGE,), 0, "x"),
)


def all_steps(a):
    """All steps that fit a forest, with the word x."""
    found = []
    rows = [((), len(a))]
    for _, path in slow_nodes(a):
        found.append(("change", path, "x"))
        found.append(("drop", path))
        below = [p for _, p in slow_nodes(a) if p[:-1] == path]
        rows.append((path, len(below)))
    for above, many in rows:
        for start in range(many + 1):
            for count in range(many - start + 1):
                found.append(("add", above + (start,), count, "x"))
    return found


def random_script(rng, a, many):
    steps = []
    for _ in range(many):
        fitting = [step for step in all_steps(a) if step[0] != "add" or len(slow_nodes(a)) < 12]
        if not fitting:
            break
        steps.append(rng.choice(fitting))
        a = step_on(a, steps[-1])
    return steps


def random_scripts(seed, many):
    rng = random.Random(seed)
    for _ in range(many):
        a = random_forest(rng, rng.randint(0, 6), deepest=4)
        yield a, random_script(rng, a, rng.randint(0, 6))


class StepOn(unittest.TestCase):
    def behind(self, step, text):
        self.assertEqual(forest_text(step_on(TREE, step)), text)

    def test_change(self):
        self.behind(("change", (0,), "x"), "x(b,c(d,e)),f")
        self.behind(("change", (0, 1, 1), "x"), "a(b,c(d,x)),f")
        self.behind(("change", (1,), "f"), "a(b,c(d,e)),f")

    def test_drop(self):
        self.behind(("drop", (0,)), "b,c(d,e),f")
        self.behind(("drop", (0, 1)), "a(b,d,e),f")
        self.behind(("drop", (0, 0)), "a(c(d,e)),f")
        self.behind(("drop", (1,)), "a(b,c(d,e))")
        self.assertEqual(step_on(read_forest("a"), ("drop", (0,))), ())

    def test_add(self):
        self.behind(("add", (0,), 0, "x"), "x,a(b,c(d,e)),f")
        self.behind(("add", (2,), 0, "x"), "a(b,c(d,e)),f,x")
        self.behind(("add", (0,), 2, "x"), "x(a(b,c(d,e)),f)")
        self.behind(("add", (1,), 1, "x"), "a(b,c(d,e)),x(f)")
        self.behind(("add", (0, 1), 1, "x"), "a(b,x(c(d,e))),f")
        self.behind(("add", (0, 0), 2, "x"), "a(x(b,c(d,e))),f")
        self.behind(("add", (0, 0, 0), 0, "x"), "a(b(x),c(d,e)),f")
        self.behind(("add", (0, 1, 2), 0, "x"), "a(b,c(d,e,x)),f")
        self.assertEqual(step_on((), ("add", (0,), 0, "x")), read_forest("x"))

    def test_full_size(self):
        for a in FULL:
            for step in all_steps(a):
                size = {"change": 12, "drop": 11, "add": 13}[step[0]]
                behind = step_on(a, step)
                self.assertEqual(len(slow_nodes(behind)), size)
                self.assertEqual(run_steps(behind, steps_back(a, (step,))), a)

    def test_no_steps(self):
        for step in NO_STEPS + NOTHINGS:
            with self.assertRaises(InvalidScript) as caught:
                step_on(TREE, step)
            self.assertIs(caught.exception.value, step)
        for good in (("change", (0,), "x"), ("drop", (0, 1)), ("add", (0, 1), 1, "x")):
            for step in spoilt(good):
                with self.assertRaises(InvalidScript):
                    step_on(TREE, step)

    def test_no_fit(self):
        for step in NO_FIT:
            with self.assertRaises(InvalidPath) as caught:
                step_on(TREE, step)
            self.assertIs(caught.exception.path, step[1])

    def test_all_that_fit_and_no_others(self):
        fitting = all_steps(TREE)
        paths = [(i,) for i in range(4)] + [(i, j) for i in range(4) for j in range(4)]
        paths += [(0, i, j) for i in range(4) for j in range(4)]
        for path in paths:
            steps = [("change", path, "x"), ("drop", path)] + [("add", path, k, "x") for k in range(4)]
            for step in steps:
                if step in fitting:
                    step_on(TREE, step)
                else:
                    with self.assertRaises(InvalidPath):
                        step_on(TREE, step)


class Scripts(unittest.TestCase):
    def test_ordinary(self):
        steps = [("change", (0,), "b"), ("drop", (0, 1)), ("add", (1,), 1, "c")]
        self.assertEqual(forest_text(run_steps(TREE, steps)), "b(b,d,e),c(f)")
        self.assertEqual(steps_price(TREE, steps, SKEW), 1 + 2 + 3)
        back = (("drop", (1,)), ("add", (0, 1), 2, "c"), ("change", (0,), "a"))
        self.assertEqual(steps_back(TREE, steps), back)
        self.assertEqual(run_steps(run_steps(TREE, steps), back), TREE)

    def test_no_steps_at_all(self):
        for nothing in ((), []):
            self.assertEqual(run_steps(TREE, nothing), TREE)
            self.assertEqual(steps_price(TREE, nothing, EVEN), 0)
            self.assertEqual(steps_back(TREE, nothing), ())

    def test_a_change_to_the_same_word_costs_nothing(self):
        self.assertEqual(steps_price(TREE, (("change", (0,), "a"),), EVEN), 0)
        self.assertEqual(steps_back(TREE, (("change", (0,), "a"),)), (("change", (0,), "a"),))

    def test_the_word_that_stands_there(self):
        twice = (("change", (0,), "b"), ("change", (0,), "c"))
        self.assertEqual(steps_price(TREE, twice, SKEW), 1 + 0)

    def test_by_definition(self):
        for k, (a, steps) in enumerate(random_scripts(26, 150)):
            prices = ALL_PRICES[k % 4]
            price = 0
            b = a
            for step in steps:
                if step[0] == "change":
                    price += slow_change(prices, dict((p, w) for w, p in slow_nodes(b))[step[1]], step[2])
                else:
                    price += prices[0] if step[0] == "drop" else prices[1]
                b = step_on(b, step)
            self.assertEqual(run_steps(a, steps), b)
            self.assertEqual(run_steps(a, tuple(steps)), b)
            self.assertEqual(steps_price(a, steps, prices), price)

    def test_each_step_back_undoes_one(self):
        kinds = {"change": "change", "drop": "add", "add": "drop"}
        for a, steps in random_scripts(27, 150):
            back = steps_back(a, steps)
            self.assertEqual(len(back), len(steps))
            for k, step in enumerate(reversed(back)):
                ahead = run_steps(a, steps[:k])
                self.assertEqual(step[0], kinds[steps[k][0]])
                self.assertEqual(step[1], steps[k][1])
                self.assertEqual(step_on(step_on(ahead, steps[k]), step), ahead)
            self.assertEqual(run_steps(run_steps(a, steps), back), a)
            self.assertEqual(steps_back(run_steps(a, steps), back), tuple(steps))

    def test_thirty_steps(self):
        steps = [("add", (0,), 0, "x"), ("drop", (0,))] * 15
        self.assertEqual(run_steps(TREE, steps), TREE)
        self.assertEqual(steps_price(TREE, steps, EVEN), 30)
        self.assertEqual(steps_back(TREE, steps), (("add", (0,), 0, "x"), ("drop", (0,))) * 15)


class Errors(unittest.TestCase):
    def test_those_of_the_first_step_that_has_one(self):
        calls = (run_steps, steps_back, lambda a, steps: steps_price(a, steps, EVEN))
        for call in calls:
            for step in NO_STEPS:
                with self.assertRaises(InvalidScript) as caught:
                    call(TREE, (("drop", (1,)), step, ("drop", (7,))))
                self.assertIs(caught.exception.value, step)
            for step in NO_FIT:
                with self.assertRaises(InvalidPath) as caught:
                    call(TREE, [("change", (1,), "x"), step, None])
                self.assertIs(caught.exception.path, step[1])
            with self.assertRaises(InvalidPath) as caught:
                call(TREE, (("drop", (1,)), ("change", (1,), "x")))
            self.assertEqual(caught.exception.path, (1,))

    def test_forests_and_prices_ahead_of_steps(self):
        for value in NOTHINGS:
            for call in (step_on, run_steps, steps_back, lambda a, steps: steps_price(a, steps, None)):
                for steps in ((None,), ()):
                    with self.assertRaises(InvalidForest) as caught:
                        call(value, steps)
                    self.assertIs(caught.exception.value, value)
            with self.assertRaises(InvalidPrices) as caught:
                steps_price(TREE, (None,), value)
            self.assertIs(caught.exception.value, value)
