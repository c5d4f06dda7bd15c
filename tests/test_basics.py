"""Promises 1, 2 and 4, for every function of the interface that is built so far."""

import inspect
import unittest
from importlib import import_module

from graftbook.between import script_between
from graftbook.distancepapers import distance_paper
from graftbook.errors import InvalidForest, InvalidPlot, InvalidPrices
from graftbook.foresttext import read_forest
from graftbook.loose import loose_pairs, loose_paper
from graftbook.plottext import read_plot
from graftbook.rowpapers import row_paper
from tests.samples import FULL, FULL_PLOT_TEXTS, NOTHINGS, SKEW, kinds_are_plain

A = read_forest("a(b,c(d))")
B = read_forest("a(b,d)")
ROW = ["a", "b", "c"]
OTHER_ROW = ("a", "c")
STEPS = [("change", (0,), "b"), ("drop", (0, 1)), ("add", (0,), 1, "c")]
PAIRS = ((0, 0), (1, 1), (3, 2))
TOP_PAIRS = ((0, 0), (1, 1), (2, 2))
ALIGNMENT = (("a", "a", (("b", "b", ()), ("c", "", (("d", "d", ()),)))),)
TABLE = ((4, 1), (2, 0))
PATTERN = read_forest("a(any,rest)")
PLOT = read_plot("5a(2b,9c(1d)),7e")
OTHER_PLOT = read_plot("7e,5x(9c(1d,3f))")
SCRIPT = [("word", 2, "x"), ("move", 2, 0, 7)]
OTHER_SCRIPT = [("word", 9, "y"), ("add", 3, "f", 9, 1)]
HISTORY = [("add", 1, "a", 0, 0), ("add", 2, "b", 1, 0), ("word", 2, "y"), ("word", 1, "x")]
TURNED = [HISTORY[0], HISTORY[1], HISTORY[3], HISTORY[2]]
SIDES = {"base": PLOT, "left": OTHER_PLOT, "right": PLOT}
BOTH = {"t": PLOT, "p": SCRIPT, "q": OTHER_SCRIPT}
ALL = {"t": PLOT, "scripts": [SCRIPT, OTHER_SCRIPT, [("drop", 1)]]}
CLAIM = ("least", PLOT, OTHER_PLOT, 4)

# For each function its arguments, by their names and in their sequence.
CALLS = {
    "forests": {
        "is_forest": {"value": A}, "forest_size": {"a": A}, "forest_depth": {"a": A}, "forest_words": {"a": A},
        "words_behind": {"a": A}, "forest_joined": {"a": A, "b": B}, "forest_turned": {"a": A},
        "forest_below": {"a": A, "b": B},
    },
    "numbers": {
        "parents_of": {"a": A}, "forest_of": {"words": ["a", "b"], "parents": [-1, 0]}, "sizes_of": {"a": A},
        "post_numbers": {"a": A}, "first_leaves": {"a": A}, "is_over": {"a": A, "i": 0, "k": 3},
    },
    "paths": {
        "path_of": {"a": A, "i": 3}, "node_at": {"a": A, "path": (0, 1)}, "tree_at": {"a": A, "path": (0, 1)},
        "word_at": {"a": A, "path": (0, 1)}, "replaced": {"a": A, "path": (0, 1), "b": B},
    },
    "foresttext": {"forest_text": {"a": A}, "read_forest": {"text": "a(b)"}},
    "prices": {
        "change_price": {"prices": SKEW, "word": "a", "other": "b"}, "is_prices": {"value": SKEW},
        "prices_turned": {"prices": SKEW}, "is_chained": {"prices": SKEW, "words": ROW},
    },
    "rows": {
        "row_price": {"a": ROW, "b": OTHER_ROW, "prices": SKEW, "matching": ((0, 0), (2, 1))},
        "row_distance": {"a": ROW, "b": OTHER_ROW, "prices": SKEW},
        "first_row_matching": {"a": ROW, "b": OTHER_ROW, "prices": SKEW},
        "count_row_matchings": {"a": ROW, "b": OTHER_ROW, "prices": SKEW},
        "common_row": {"a": ROW, "b": OTHER_ROW},
    },
    "rowpapers": {
        "row_paper": {"a": ROW, "b": OTHER_ROW, "prices": SKEW},
        "row_paper_holds": {"a": ROW, "b": OTHER_ROW, "prices": SKEW, "n": 2,
                            "paper": row_paper(ROW, OTHER_ROW, SKEW)},
    },
    "matchings": {
        "is_matching": {"value": PAIRS, "a": A, "b": B},
        "matching_price": {"a": A, "b": B, "prices": SKEW, "matching": PAIRS},
        "all_matchings": {"a": A, "b": B}, "matching_turned": {"matching": PAIRS},
        "matching_joined": {"matching": PAIRS, "other": ((0, 0), (2, 1))},
    },
    "distances": {
        name: {"a": A, "b": B, "prices": SKEW}
        for name in ("forest_distance", "least_matching", "first_matching", "matching_counts", "sure_pairs",
                     "open_pairs")
    },
    "distancepapers": {
        "distance_paper": {"a": A, "b": B, "prices": SKEW},
        "distance_paper_holds": {"a": A, "b": B, "prices": SKEW, "n": 2, "paper": distance_paper(A, B, SKEW)},
        "distance_holds": {"a": A, "b": B, "prices": SKEW, "n": 2, "matching": PAIRS,
                           "paper": distance_paper(A, B, SKEW)},
    },
    "steps": {
        "step_on": {"a": A, "step": STEPS[0]}, "run_steps": {"a": A, "steps": STEPS},
        "steps_price": {"a": A, "steps": STEPS, "prices": SKEW}, "steps_back": {"a": A, "steps": STEPS},
    },
    "traces": {
        "trace_of": {"a": A, "steps": STEPS}, "steps_of": {"a": A, "b": B, "matching": PAIRS},
        "least_steps": {"a": A, "b": B, "prices": SKEW}, "steps_shortened": {"a": A, "steps": STEPS},
    },
    "tops": {
        "is_from_top": {"a": A, "b": B, "matching": TOP_PAIRS}, "top_distance": {"a": A, "b": B, "prices": SKEW},
        "first_top_matching": {"a": A, "b": B, "prices": SKEW},
    },
    "alignments": {
        "side_of": {"alignment": ALIGNMENT, "k": 1}, "alignment_holds": {"a": A, "b": B, "value": ALIGNMENT},
        "alignment_price": {"alignment": ALIGNMENT, "prices": SKEW},
        "aligned_distance": {"a": A, "b": B, "prices": SKEW}, "best_alignment": {"a": A, "b": B, "prices": SKEW},
        "alignment_matching": {"alignment": ALIGNMENT},
    },
    "choices": {
        "best_choice": {"table": TABLE}, "choice_paper": {"table": TABLE},
        "choice_holds": {"table": TABLE, "choice": (1, 0), "paper": ((1, 0), (2, 0))},
    },
    "likeness": {
        "sorted_form": {"a": A}, "alike": {"a": A, "b": A}, "pairing_of": {"a": A, "b": A},
        "pairing_holds": {"a": A, "b": A, "pairing": (0, 1, 2, 3)}, "ways_alike": {"a": A},
    },
    "loose": {
        "loose_distance": {"a": A, "b": B, "prices": SKEW}, "loose_pairs": {"a": A, "b": B, "prices": SKEW},
        "loose_paper": {"a": A, "b": B, "prices": SKEW},
        "loose_holds": {"a": A, "b": B, "prices": SKEW, "n": 6, "pairs": loose_pairs(A, B, SKEW),
                        "paper": loose_paper(A, B, SKEW)},
    },
    "embeddings": {
        "embedding_of": {"a": B, "b": A}, "count_embeddings": {"a": B, "b": A},
        "embedding_holds": {"a": B, "b": A, "value": ((0, 0), (1, 1), (2, 3))}, "common_size": {"a": A, "b": B},
        "common_forest": {"a": A, "b": B},
    },
    "patterns": {
        "fits": {"pattern": PATTERN, "a": A}, "taken": {"pattern": PATTERN, "a": A},
        "filled": {"pattern": PATTERN, "forests": [A, B]}, "found_at": {"pattern": PATTERN, "a": A},
        "is_pattern": {"value": PATTERN},
    },
    "twins": {
        "classes_of": {"a": A}, "greatest_twins": {"a": A}, "shared_form": {"a": A},
        "unshared": {"form": (("a", (1, 1)), ("b", ())), "roots": (0, 1)},
    },
    "plots": {
        "is_plot": {"value": PLOT}, "marks_of": {"t": PLOT}, "bare": {"t": PLOT}, "spot_at": {"t": PLOT, "m": 9},
        "row_of": {"t": PLOT, "m": 5}, "marked": {"a": A, "marks": [4, 3, 2, 1]},
    },
    "plottext": {"plot_text": {"t": PLOT}, "read_plot": {"text": "1a(2b)"}},
    "deeds": {
        "is_deed": {"value": ("drop", 1)}, "run_deed": {"t": PLOT, "deed": ("move", 9, 0, 5)},
        "refusal_of": {"t": PLOT, "deed": ("drop", 9)}, "back_deed": {"t": PLOT, "deed": ("drop", 1)},
    },
    "scripts": {
        "run": {"t": PLOT, "script": SCRIPT}, "prefix_run": {"t": PLOT, "script": SCRIPT},
        "back_script": {"t": PLOT, "script": SCRIPT}, "touched": {"script": SCRIPT},
    },
    "merges": {
        "are_free": {"t": PLOT, "d": SCRIPT[0], "e": OTHER_SCRIPT[0]}, "agree": BOTH, "merged": BOTH, "corners": BOTH,
        "is_square": BOTH, "clash_of": {**BOTH, "q": [("word", 2, "y")]}, "far_apart": {"p": SCRIPT, "q": OTHER_SCRIPT},
    },
    "lots": {"lots_agree": ALL, "merged_all": {**ALL, "scripts": ALL["scripts"][:2]}, "greatest_lot": ALL},
    "between": {
        name: {"t": PLOT, "u": OTHER_PLOT} for name in ("script_between", "plot_distance", "kept_marks")
    },
    "threes": {
        "merged_three": SIDES, "three_agree": SIDES,
        "merged_forests": {"base": A, "left": B, "right": A, "prices": SKEW},
    },
    "histories": {
        "orders_of": {"history": HISTORY}, "is_order": {"history": HISTORY, "value": (0, 1, 3, 2)},
        "in_order": {"history": HISTORY, "order": (0, 1, 3, 2)}, "normal": {"history": HISTORY},
        "same_deeds": {"history": HISTORY, "other": TURNED},
    },
    "picks": {
        "needs": {"history": HISTORY, "i": 2}, "layers": {"history": HISTORY},
        "picked": {"history": HISTORY, "numbers": [1, 0]}, "without": {"history": HISTORY, "i": 3},
    },
    "swaps": {
        "swaps_between": {"history": HISTORY, "other": TURNED},
        "swaps_hold": {"history": HISTORY, "other": TURNED, "paper": (2,)},
    },
    "claims": {
        "is_claim": {"value": CLAIM}, "claim_holds": {"claim": CLAIM, "paper": script_between(PLOT, OTHER_PLOT)},
        "seal_claim": {"claim": CLAIM}, "right_claim": {"claim": CLAIM},
    },
    "told": {"told": {"value": CLAIM}, "untold": {"text": '(("drop",1),)'}},
}

# Arguments that may be lists or tuples (in rows and row papers a and b, too).
SEQUENCES = ("words", "parents", "steps", "forests", "marks", "script", "scripts", "p", "q", "history", "numbers")

# Functions that look at any value, with the arguments that may be any.
LOOKING = {
    "is_forest": ("value",), "is_prices": ("value",), "is_matching": ("value",), "row_paper_holds": ("n", "paper"),
    "distance_paper_holds": ("n", "paper"), "distance_holds": ("n", "matching", "paper"),
    "alignment_holds": ("value",), "choice_holds": ("choice", "paper"), "pairing_holds": ("pairing",),
    "loose_holds": ("n", "pairs", "paper"), "embedding_holds": ("value",), "is_pattern": ("value",),
    "is_plot": ("value",), "is_deed": ("value",), "is_order": ("value",), "swaps_hold": ("paper",),
    "is_claim": ("value",), "claim_holds": ("claim", "paper"),
}


def all_calls():
    for module, functions in CALLS.items():
        for name, given in functions.items():
            yield getattr(import_module("graftbook." + module), name), dict(given)


class Calls(unittest.TestCase):
    def test_defined_where_the_interface_says(self):
        for module, functions in CALLS.items():
            for name, given in functions.items():
                function = getattr(import_module("graftbook." + module), name)
                self.assertEqual(function.__module__, "graftbook." + module)
                self.assertEqual(list(inspect.signature(function).parameters), list(given), name)

    def test_by_position_and_by_name(self):
        for function, given in all_calls():
            result = function(*given.values())
            self.assertEqual(function(**given), result)
            turned = dict(reversed(list(given.items())))
            self.assertEqual(function(**turned), result)

    def test_equal_calls_and_arguments_kept(self):
        for function, given in all_calls():
            before = repr(given)
            result = function(**given)
            self.assertEqual(repr(given), before)
            self.assertEqual(repr(function(**given)), repr(result))

    def test_lists_and_tuples_as_sequences(self):
        for function, given in all_calls():
            result = function(**given)
            for name, value in given.items():
                module = function.__module__
                is_row = module in ("graftbook.rows", "graftbook.rowpapers") and name in ("a", "b")
                is_history = module in ("graftbook.histories", "graftbook.swaps") and name == "other"
                if name in SEQUENCES or is_row or is_history:
                    for kind in (list, tuple):
                        self.assertEqual(function(**{**given, name: kind(value)}), result)

    def test_results_are_plain(self):
        for function, given in all_calls():
            self.assertTrue(kinds_are_plain(function(**given)), function.__name__)

    def test_whether_is_true_or_false(self):
        for function, given in all_calls():
            name = function.__name__
            if name.startswith(("is_", "forest_below", "alike", "fits", "are_free", "same_deeds", "far_apart")):
                self.assertIs(type(function(**given)), bool)
            if name.endswith(("holds", "hold", "agree")):
                self.assertIs(type(function(**given)), bool)


class FirstOfAll(unittest.TestCase):
    def test_forests_and_prices_from_the_left(self):
        for function, given in all_calls():
            must_be = self.checked(function, given)
            for value in NOTHINGS:
                for k, (name, error) in enumerate(must_be):
                    wrong = {**given, name: value}
                    # All that stands behind it is wrong as well.
                    for later, _ in must_be[k + 1:]:
                        wrong[later] = None
                    with self.assertRaises(error) as caught:
                        function(**wrong)
                    self.assertIs(caught.exception.value, value)

    def test_ahead_of_other_errors(self):
        spoilable = ("matching", "path", "step", "i", "k", "value", "n", "paper", "pairing", "pairs", "deed", "m",
                     "script", "d", "e", "p", "q")
        for function, given in all_calls():
            for name, error in self.checked(function, given):
                wrong = {**given, name: "none"}
                for other in spoilable:
                    if other in given:
                        wrong[other] = -1
                for other in ("steps", "forests", "marks", "scripts"):
                    if other in given:
                        wrong[other] = (None,)
                with self.assertRaises(error) as caught:
                    function(**wrong)
                self.assertEqual(caught.exception.value, "none")

    def checked(self, function, given):
        rows = function.__module__ in ("graftbook.rows", "graftbook.rowpapers")
        found = []
        for name in given:
            if name in ("a", "b", "pattern") and not rows:
                found.append((name, InvalidForest))
            if name in ("t", "u"):
                found.append((name, InvalidPlot))
            if name in ("base", "left", "right"):
                found.append((name, InvalidForest if function.__name__ == "merged_forests" else InvalidPlot))
            if name == "prices":
                found.append((name, InvalidPrices))
        return found


class AnyValue(unittest.TestCase):
    def test_no_error_and_false(self):
        looked_at = 0
        for function, given in all_calls():
            for name in LOOKING.get(function.__name__, ()):
                looked_at += 1
                self.assertIs(function(**given), True, function.__name__)
                for value in NOTHINGS:
                    if name != "n" or value is True or value != given["n"]:
                        self.assertIs(function(**{**given, name: value}), False)
        self.assertEqual(looked_at, sum(len(names) for names in LOOKING.values()))


class FullSizes(unittest.TestCase):
    def test_forests_of_twelve_nodes(self):
        narrow = ("all_matchings", "first_matching", "matching_counts", "sure_pairs", "open_pairs", "least_steps",
                  "first_top_matching", "aligned_distance", "best_alignment", "common_forest")
        for function, given in all_calls():
            if given.get("a") in (A, B) and function.__name__ not in narrow:
                for a in FULL:
                    larger = {**given, "a": a}
                    for name, value in (("path", (0,)), ("steps", STEPS[:1]), ("matching", ()), ("pattern", a),
                                        ("marks", tuple(range(1, 13)))):
                        if name in given:
                            larger[name] = value
                    if function.__name__ == "pairing_of":
                        larger["b"] = a
                    function(**larger)

    def test_plots_of_twelve_spots(self):
        for function, given in all_calls():
            if "t" in given:
                for text in FULL_PLOT_TEXTS:
                    larger = {**given, "t": read_plot(text)}
                    deed = ("word", 1, "x")
                    for name, value in (("deed", deed), ("d", deed), ("e", deed), ("script", [deed]), ("p", [deed] * 8),
                                        ("q", [deed] * 8), ("scripts", [[deed] * 4] * 4)):
                        if name in given:
                            larger[name] = value
                    function(**larger)
