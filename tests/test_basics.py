"""Promises 1, 2 and 4, for every function of the interface that is built so far."""

import inspect
import unittest
from importlib import import_module

from graftbook.distancepapers import distance_paper
from graftbook.errors import InvalidForest, InvalidPrices
from graftbook.foresttext import read_forest
from graftbook.rowpapers import row_paper
from tests.samples import FULL, NOTHINGS, SKEW, kinds_are_plain

A = read_forest("a(b,c(d))")
B = read_forest("a(b,d)")
ROW = ["a", "b", "c"]
OTHER_ROW = ("a", "c")
STEPS = [("change", (0,), "b"), ("drop", (0, 1)), ("add", (0,), 1, "c")]
PAIRS = ((0, 0), (1, 1), (3, 2))

# For each function its arguments, by their names and in their sequence.
CALLS = {
    "forests": {
        "is_forest": {"value": A}, "forest_size": {"a": A}, "forest_depth": {"a": A}, "forest_words": {"a": A},
        "words_behind": {"a": A}, "forest_joined": {"a": A, "b": B}, "forest_turned": {"a": A},
        "forest_below": {"a": A, "b": B},
    },
    "numbers": {
        "parents_of": {"a": A}, "forest_of": {"words": ["a", "b"], "parents": [-1, 0]}, "sizes_of": {"a": A},
        "post_numbers": {"a": A}, "first_leaves": {"a": A}, "is_over": {"a": A, "i": 0, "k": 3},
    },
    "paths": {
        "path_of": {"a": A, "i": 3}, "node_at": {"a": A, "path": (0, 1)}, "tree_at": {"a": A, "path": (0, 1)},
        "word_at": {"a": A, "path": (0, 1)}, "replaced": {"a": A, "path": (0, 1), "b": B},
    },
    "foresttext": {"forest_text": {"a": A}, "read_forest": {"text": "a(b)"}},
    "prices": {
        "change_price": {"prices": SKEW, "word": "a", "other": "b"}, "is_prices": {"value": SKEW},
        "prices_turned": {"prices": SKEW}, "is_chained": {"prices": SKEW, "words": ROW},
    },
    "rows": {
        "row_price": {"a": ROW, "b": OTHER_ROW, "prices": SKEW, "matching": ((0, 0), (2, 1))},
        "row_distance": {"a": ROW, "b": OTHER_ROW, "prices": SKEW},
        "first_row_matching": {"a": ROW, "b": OTHER_ROW, "prices": SKEW},
        "count_row_matchings": {"a": ROW, "b": OTHER_ROW, "prices": SKEW},
        "common_row": {"a": ROW, "b": OTHER_ROW},
    },
    "rowpapers": {
        "row_paper": {"a": ROW, "b": OTHER_ROW, "prices": SKEW},
        "row_paper_holds": {"a": ROW, "b": OTHER_ROW, "prices": SKEW, "n": 2,
                            "paper": row_paper(ROW, OTHER_ROW, SKEW)},
    },
    "matchings": {
        "is_matching": {"value": PAIRS, "a": A, "b": B},
        "matching_price": {"a": A, "b": B, "prices": SKEW, "matching": PAIRS},
        "all_matchings": {"a": A, "b": B}, "matching_turned": {"matching": PAIRS},
        "matching_joined": {"matching": PAIRS, "other": ((0, 0), (2, 1))},
    },
    "distances": {
        name: {"a": A, "b": B, "prices": SKEW}
        for name in ("forest_distance", "least_matching", "first_matching", "matching_counts", "sure_pairs",
                     "open_pairs")
    },
    "distancepapers": {
        "distance_paper": {"a": A, "b": B, "prices": SKEW},
        "distance_paper_holds": {"a": A, "b": B, "prices": SKEW, "n": 2, "paper": distance_paper(A, B, SKEW)},
        "distance_holds": {"a": A, "b": B, "prices": SKEW, "n": 2, "matching": PAIRS,
                           "paper": distance_paper(A, B, SKEW)},
    },
    "steps": {
        "step_on": {"a": A, "step": STEPS[0]}, "run_steps": {"a": A, "steps": STEPS},
        "steps_price": {"a": A, "steps": STEPS, "prices": SKEW}, "steps_back": {"a": A, "steps": STEPS},
    },
}

# Arguments that may be lists or tuples (in rows and row papers a and b, too).
SEQUENCES = ("words", "parents", "steps")


def all_calls():
    for module, functions in CALLS.items():
        for name, given in functions.items():
            yield getattr(import_module("graftbook." + module), name), dict(given)


class Calls(unittest.TestCase):
    def test_defined_where_the_interface_says(self):
        for module, functions in CALLS.items():
            for name, given in functions.items():
                function = getattr(import_module("graftbook." + module), name)
                self.assertEqual(function.__module__, "graftbook." + module)
                self.assertEqual(list(inspect.signature(function).parameters), list(given), name)

    def test_by_position_and_by_name(self):
        for function, given in all_calls():
            result = function(*given.values())
            self.assertEqual(function(**given), result)
            turned = dict(reversed(list(given.items())))
            self.assertEqual(function(**turned), result)

    def test_equal_calls_and_arguments_kept(self):
        for function, given in all_calls():
            before = repr(given)
            result = function(**given)
            self.assertEqual(repr(given), before)
            self.assertEqual(repr(function(**given)), repr(result))

    def test_lists_and_tuples_as_sequences(self):
        for function, given in all_calls():
            result = function(**given)
            for name, value in given.items():
                is_row = function.__module__ in ("graftbook.rows", "graftbook.rowpapers") and name in ("a", "b")
                if name in SEQUENCES or is_row:
                    for kind in (list, tuple):
                        self.assertEqual(function(**{**given, name: kind(value)}), result)

    def test_results_are_plain(self):
        for function, given in all_calls():
            self.assertTrue(kinds_are_plain(function(**given)), function.__name__)

    def test_whether_is_true_or_false(self):
        for function, given in all_calls():
            if function.__name__.startswith(("is_", "forest_below")) or "holds" in function.__name__:
                self.assertIs(function(**given) in (True, False), True)
                self.assertIs(type(function(**given)), bool)


class FirstOfAll(unittest.TestCase):
    def test_forests_and_prices_from_the_left(self):
        for function, given in all_calls():
            must_be = self.checked(function, given)
            for value in NOTHINGS:
                for k, (name, error) in enumerate(must_be):
                    wrong = {**given, name: value}
                    # All that stands behind it is wrong as well.
                    for later, _ in must_be[k + 1:]:
                        wrong[later] = None
                    with self.assertRaises(error) as caught:
                        function(**wrong)
                    self.assertIs(caught.exception.value, value)

    def test_ahead_of_other_errors(self):
        spoilable = ("matching", "path", "step", "i", "k", "value", "n", "paper")
        for function, given in all_calls():
            for name, error in self.checked(function, given):
                wrong = {**given, name: "none"}
                for other in spoilable:
                    if other in given and function.__name__ not in ("is_forest", "is_prices"):
                        wrong[other] = -1
                if "steps" in given:
                    wrong["steps"] = (None,)
                with self.assertRaises(error) as caught:
                    function(**wrong)
                self.assertEqual(caught.exception.value, "none")

    def checked(self, function, given):
        rows = function.__module__ in ("graftbook.rows", "graftbook.rowpapers")
        found = []
        for name in given:
            if name in ("a", "b") and not rows:
                found.append((name, InvalidForest))
            if name == "prices":
                found.append((name, InvalidPrices))
        return found


class AnyValue(unittest.TestCase):
    def test_no_error_and_false(self):
        looking = {"is_forest": "value", "is_prices": "value", "is_matching": "value", "row_paper_holds": "paper",
                   "distance_paper_holds": "paper", "distance_holds": "paper"}
        for function, given in all_calls():
            name = looking.get(function.__name__)
            if name:
                self.assertIs(function(**given), True)
                for value in NOTHINGS:
                    self.assertIs(function(**{**given, name: value}), False)
                    if "n" in given and (value is True or value != given["n"]):
                        self.assertIs(function(**{**given, "n": value}), False)


class FullSizes(unittest.TestCase):
    def test_forests_of_twelve_nodes(self):
        narrow = ("all_matchings", "first_matching", "matching_counts", "sure_pairs", "open_pairs")
        for function, given in all_calls():
            if "a" in given and given["a"] == A and function.__name__ not in narrow:
                for a in FULL:
                    larger = {**given, "a": a}
                    if "path" in given:
                        larger["path"] = (0,)
                    if "steps" in given:
                        larger["steps"] = STEPS[:1]
                    if "matching" in given:
                        larger["matching"] = ()
                    function(**larger)
