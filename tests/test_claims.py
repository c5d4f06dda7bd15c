"""Promises 37 and 38: claims, papers for them, and what section 1 says of both."""

import random
import unittest
from itertools import product

from graftbook.between import plot_distance, script_between
from graftbook.choices import best_choice, choice_holds, choice_paper
from graftbook.claims import claim_holds, is_claim, right_claim, seal_claim
from graftbook.deeds import is_deed
from graftbook.distancepapers import distance_holds
from graftbook.distances import forest_distance
from graftbook.embeddings import embedding_holds, embedding_of
from graftbook.errors import InvalidClaim, Refused
from graftbook.foresttext import read_forest
from graftbook.histories import in_order, orders_of, same_deeds
from graftbook.likeness import alike, pairing_holds
from graftbook.loose import loose_distance, loose_holds
from graftbook.plottext import read_plot
from graftbook.rowpapers import row_paper, row_paper_holds
from graftbook.rows import row_distance, row_price
from graftbook.scripts import run
from graftbook.swaps import swaps_hold
from tests.boards import NO_DEEDS, random_deed, random_script, runs, slow_both
from tests.samples import (
    ALL_PRICES, EVEN, FULL, FULL_PLOT_TEXTS, HUGE, NO_PLOTS, NOTHINGS, SKEW, kinds_are_plain, random_forest,
    random_plot, random_prices, slow_row_matchings, spoilt,
)

A = read_forest("a(b,c(d))")
B = read_forest("a(b,d)")
T = read_plot("1a(2b,3c)")
X = ("word", 2, "x")
Y = ("word", 2, "y")
FRONT = ("move", 3, 0, 0)
TABLE = ((4, 1), (2, 0))
HISTORY = (("add", 1, "a", 0, 0), ("add", 2, "b", 1, 0), ("word", 1, "x"))

# For each kind a claim that is true, and claims of the same kind that are not.
TRUE = (
    ("row", ("a", "b", "c"), ("a", "c"), EVEN, 1), ("distance", A, B, EVEN, 1), ("choice", TABLE, 3),
    ("alike", A, read_forest("a(c(d),b)")), ("unlike", A, B), ("loose", A, B, EVEN, 2), ("embedded", B, A),
    ("leads", T, (X, FRONT), read_plot("3c,1a(2x)")), ("agree", T, (X,), (FRONT,)), ("clash", T, (X,), (Y,)),
    ("same", HISTORY, (HISTORY[0], HISTORY[2], HISTORY[1])), ("least", T, read_plot("3c,1a(2x)"), 2),
)
UNTRUE = (
    ("row", ("a", "b", "c"), ("a", "c"), EVEN, 0), ("row", ("a", "b", "c"), ("a", "c"), EVEN, 2),
    ("row", (), (), EVEN, -1), ("distance", A, B, EVEN, 0), ("distance", A, B, EVEN, 2), ("distance", A, B, EVEN, -HUGE),
    ("choice", TABLE, 2), ("choice", TABLE, 4), ("choice", ((0,),), HUGE), ("alike", A, B), ("alike", (), A),
    ("unlike", A, A), ("unlike", A, read_forest("a(c(d),b)")), ("loose", A, B, EVEN, 1), ("loose", A, B, EVEN, 3),
    ("embedded", A, B), ("embedded", read_forest("a(d,b)"), A), ("leads", T, (X,), T), ("leads", T, (), ()),
    ("agree", T, (X,), (Y,)), ("clash", T, (X,), (X,)), ("clash", (), (), ()), ("same", HISTORY, HISTORY[:2]),
    ("same", HISTORY[:2], HISTORY), ("least", T, T, 1), ("least", T, (), 2), ("least", T, (), 4), ("least", (), T, -3),
)
# Scripts that cannot be run.
NEVER = (
    ("leads", T, (("drop", 1),), T), ("leads", T, (X, ("drop", 9)), T), ("agree", T, (("drop", 9),), (X,)),
    ("agree", T, (X,), (("drop", 9),)), ("clash", T, (("drop", 9),), (X,)), ("clash", T, (X,), (FRONT, ("drop", 9))),
    ("same", (("drop", 1),), (("drop", 1),)), ("same", HISTORY, HISTORY + (("drop", 9),)),
    ("same", HISTORY + (("drop", 1),), HISTORY), ("leads", (), (("drop", 1),), ()),
)
EDGES = (
    ("row", (), (), EVEN, 0), ("row", (), ("a",), SKEW, 3), ("distance", (), (), (0, 0, 0, ()), 0),
    ("distance", (), A, SKEW, 12), ("choice", ((0,),), 0), ("alike", (), ()), ("unlike", (), A),
    ("loose", (), (), EVEN, 0), ("embedded", (), ()), ("embedded", (), A), ("leads", (), (), ()), ("leads", T, (), T),
    ("agree", (), (), ()), ("agree", T, (X, Y), (Y,)), ("same", (), ()), ("least", (), (), 0), ("least", T, (), 3),
    ("clash", T, (("drop", 2),), (("drop", 2),)), ("same", HISTORY, HISTORY),
)
PAPERS = (
    (), ((), ()), None, True, 0, "", [], [()], ((),), (None, None), ((), (), ()), ((), ((0,),)), ((0,), ((0,), (0,))),
    ((), ((), (), ())), (("drop", 3), ("drop", 2), ("drop", 1)), ((), ((0, -1, 0, -1, 0),)), (0,), (0, 1, 2, 3),
)


def right_numbers(claim):
    """The number with which a claim is true, by the functions of the points."""
    kind, *parts = claim[:-1]
    if kind == "choice":
        (table,) = parts
        return sum(table[i][j] for i, j in enumerate(best_choice(table)))
    return {"row": row_distance, "distance": forest_distance, "loose": loose_distance, "least": plot_distance}[kind](*parts)


def is_true(claim):
    kind, *parts = claim
    if kind in ("row", "distance", "choice", "loose", "least"):
        return claim[-1] == right_numbers(claim)
    if kind in ("alike", "unlike"):
        return alike(*parts) == (kind == "alike")
    if kind == "embedded":
        return embedding_of(*parts) is not None
    if kind == "leads":
        return runs(parts[0], parts[1]) == parts[2]
    if kind in ("agree", "clash"):
        if runs(parts[0], parts[1]) is None or runs(parts[0], parts[2]) is None:
            return False
        return (slow_both(*parts) is not None) == (kind == "agree")
    return None not in [runs((), script) for script in parts] and same_deeds(*parts)


def papers_by_points(claim, paper):
    """Whether a paper is one for a claim, by the functions of the points."""
    kind, *parts = claim
    pair = type(paper) is tuple and len(paper) == 2
    if kind == "row":
        if not pair or not row_paper_holds(*parts, paper[1]) or paper[0] not in slow_row_matchings(*parts[:2]):
            return False
        return row_price(*parts[:3], paper[0]) == parts[3]
    if kind == "distance":
        return pair and distance_holds(*parts, *paper)
    if kind == "loose":
        return pair and loose_holds(*parts, *paper)
    if kind == "choice":
        return pair and choice_holds(parts[0], *paper) and sum(parts[0][i][j] for i, j in enumerate(paper[0])) == parts[1]
    if kind == "alike":
        return pairing_holds(*parts, paper)
    if kind == "embedded":
        return embedding_holds(*parts, paper)
    if kind == "same":
        return None not in [runs((), script) for script in parts] and swaps_hold(*parts, paper)
    if kind == "least":
        if type(paper) is not tuple or not all(is_deed(deed) for deed in paper):
            return False
        return len(paper) == parts[2] == plot_distance(*parts[:2]) and runs(parts[0], paper) == parts[1]
    return type(paper) is tuple and paper == () and is_true(claim)


def shifted(paper):
    """Copies of a paper with one integer, at any depth, one less or one more."""
    if type(paper) is int:
        yield from (paper - 1, paper + 1)
    elif type(paper) is tuple:
        for k, part in enumerate(paper):
            for other in shifted(part):
                yield paper[:k] + (other,) + paper[k + 1:]


def shortened(paper):
    """Copies of a paper with one part, at any depth, left out or put twice."""
    if type(paper) is tuple:
        for k, part in enumerate(paper):
            yield paper[:k] + paper[k + 1:]
            yield paper[:k] + (part, part) + paper[k + 1:]
            for other in shortened(part):
                yield paper[:k] + (other,) + paper[k + 1:]


def random_claims(seed, many):
    """Claims of all kinds, true ones and others, scripts among them that cannot be run."""
    rng = random.Random(seed)
    marks = (1, 2, 3, 4)
    for _ in range(many):
        a, b = (random_forest(rng, rng.randint(0, 5)) for _ in range(2))
        prices = random_prices(rng.random())
        row, other = (tuple(rng.choice("abc") for _ in range(rng.randint(0, 4))) for _ in range(2))
        t, u = (random_plot(rng, rng.randint(0, 4), "ab", 4, range(1, 6)) for _ in range(2))
        p, q = (random_script(rng, t, 2, marks) for _ in range(2))
        if rng.random() < 0.2:
            p += (random_deed(rng, marks),)
        history = random_script(rng, (), 4, marks)
        turned = in_order(history, rng.choice(orders_of(history)))
        size = rng.randint(1, 4)
        table = tuple(tuple(rng.randint(0, 9) for _ in range(size)) for _ in range(size))
        yield ("row", row, other, prices, row_distance(row, other, prices) + rng.choice((0, 0, 1, -1)))
        yield ("distance", a, b, prices, forest_distance(a, b, prices) + rng.choice((0, 0, 1, -1)))
        yield ("loose", a, b, prices, loose_distance(a, b, prices) + rng.choice((0, 0, 1, -1)))
        yield ("choice", table, sum(table[k][k] for k in range(size)))
        yield ("choice", table, sum(table[i][j] for i, j in enumerate(best_choice(table))))
        yield (rng.choice(("alike", "unlike")), a, b)
        yield (rng.choice(("alike", "unlike")), a, tuple(rng.sample(a, len(a))))
        yield ("embedded", a, b)
        yield ("embedded", random_forest(rng, 2), a)
        yield ("leads", t, p, rng.choice((runs(t, p) or t, u)))
        yield (rng.choice(("agree", "clash")), t, p, q)
        yield ("same", history, rng.choice((turned, history[:-1], p)))
        yield ("least", t, u, plot_distance(t, u) + rng.choice((0, 0, 1, -1)))


class IsClaim(unittest.TestCase):
    def test_ordinary(self):
        for claim in TRUE + UNTRUE + NEVER + EDGES:
            self.assertIs(is_claim(claim), True, claim)
        self.assertEqual(len({claim[0] for claim in TRUE}), 12)

    def test_form_alone(self):
        huge = ("row", ("a",), (), (HUGE, 0, 0, (("a", "b", HUGE),)), -HUGE)
        for claim in (huge, ("least", ((HUGE, "a", ()),), (), HUGE), ("same", (("drop", HUGE),) * 9, ()),
                      ("choice", ((HUGE,),), 0), ("leads", (), (("add", 1, "add", HUGE, 2),), ())):
            self.assertIs(is_claim(claim), True)

    def test_any_value(self):
        for value in NOTHINGS + NO_PLOTS + NO_DEEDS:
            self.assertIs(is_claim(value), False, value)
            self.assertIs(claim_holds(value, ()), False)
            for call in (seal_claim, right_claim):
                with self.assertRaises(InvalidClaim) as caught:
                    call(value)
                self.assertIs(caught.exception.value, value)

    def test_each_part(self):
        for claim in TRUE:
            for value in spoilt(claim):
                self.assertIs(is_claim(value), False, value)
                self.assertIs(claim_holds(value, seal_claim(claim)), False, value)
            for k in range(len(claim)):
                self.assertIs(is_claim(claim[:k] + claim[k + 1:]), False)
                self.assertIs(is_claim(claim[:k] + ((),) + claim[k:]), False)
                for value in (None, True, [], HUGE, "a", (1,), ("A",), ((),)):
                    changed = claim[:k] + (value,) + claim[k + 1:]
                    fits = value == HUGE and type(claim[-1]) is int and k == len(claim) - 1
                    self.assertIs(is_claim(changed), fits, changed)

    def test_other_kinds(self):
        for kind in ("rows", "Row", "", "below", "claim", None, 0, True, ("row",), ["row"], HUGE):
            for claim in TRUE:
                self.assertIs(is_claim((kind,) + claim[1:]), False)
        for value in ((), ("row",), "row", ["row"], ("choice", TABLE), ("choice", TABLE, 3, 3), ("choice", (), 0),
                      ("choice", ((1, 2),), 1), ("row", ["a"], (), EVEN, 0), ("row", "ab", (), EVEN, 0),
                      ("row", ("",), (), EVEN, 0), ("distance", A, B, EVEN, True), ("least", T, T, False),
                      ("least", T, T, None), ("leads", T, [X], T), ("leads", T, (list(X),), T), ("leads", T, X, T),
                      ("leads", T, (X, None), T), ("same", (), None), ("agree", A, (), ()), ("alike", T, T)):
            self.assertIs(is_claim(value), False, value)
            self.assertIs(claim_holds(value, ()), False)


class Holds(unittest.TestCase):
    def test_true_claims(self):
        for claim in TRUE + EDGES:
            paper = seal_claim(claim)
            self.assertIs(claim_holds(claim, paper), True, claim)
            self.assertTrue(kinds_are_plain(paper))
            self.assertEqual(seal_claim(claim), paper)
            self.assertEqual(right_claim(claim), claim)
            self.assertTrue(is_true(claim))

    def test_untrue_claims(self):
        papers = PAPERS + tuple(seal_claim(claim) for claim in TRUE + EDGES)
        for claim in UNTRUE + NEVER:
            self.assertFalse(is_true(claim))
            for paper in papers:
                self.assertIs(claim_holds(claim, paper), False, claim)
            with self.assertRaises(Refused) as caught:
                seal_claim(claim)
            self.assertIs(caught.exception.claim, claim)
            self.assertNotEqual(right_claim(claim), claim)

    def test_papers_of_others(self):
        papers = PAPERS + NOTHINGS + tuple(seal_claim(claim) for claim in TRUE + EDGES)
        for claim in TRUE + EDGES:
            for paper in papers:
                self.assertIs(claim_holds(claim, paper), papers_by_points(claim, paper), (claim, paper))

    def test_papers_changed_in_one_place(self):
        for claim in TRUE + EDGES:
            paper = seal_claim(claim)
            for other in spoilt(paper):
                self.assertIs(claim_holds(claim, other), False, (claim, other))
            for other in list(shifted(paper)) + list(shortened(paper)):
                self.assertIs(claim_holds(claim, other), papers_by_points(claim, other), (claim, other))

    def test_what_holds_is_true(self):
        rng = random.Random(311)
        met = {}
        claims = list(random_claims(312, 25))
        for claim in claims:
            right = is_true(claim)
            met[claim[0], right] = True
            if right:
                paper = seal_claim(claim)
                self.assertIs(claim_holds(claim, paper), True, claim)
                changed = list(shifted(paper)) + list(shortened(paper))
                for other in rng.sample(changed, min(8, len(changed))):
                    self.assertIs(claim_holds(claim, other), papers_by_points(claim, other), (claim, other))
                # No other claim of the same parts holds with it.
                if type(claim[-1]) is int:
                    for n in (claim[-1] - 1, claim[-1] + 1, -claim[-1] - 1):
                        self.assertIs(claim_holds(claim[:-1] + (n,), paper), False)
            else:
                with self.assertRaises(Refused) as caught:
                    seal_claim(claim)
                self.assertIs(caught.exception.claim, claim)
                self.assertIs(claim_holds(claim, ()), False)
                if right_claim(claim) is not None:
                    self.assertIs(claim_holds(claim, seal_claim(right_claim(claim))), False)
        kinds = [claim[0] for claim in TRUE]
        self.assertEqual(sorted(met), sorted(product(kinds, (False, True))))

    def test_rows(self):
        claim = ("row", ("a", "b"), ("b", "c"), EVEN, 2)
        bounds = row_paper(("a", "b"), ("b", "c"), EVEN)
        self.assertIs(claim_holds(claim, (((1, 0),), bounds)), True)
        self.assertIs(claim_holds(claim, (((0, 0), (1, 1)), bounds)), True)
        self.assertIs(claim_holds(claim, (((0, 0),), bounds)), False)
        self.assertIs(claim_holds(claim, [((1, 0),), bounds]), False)
        self.assertIs(claim_holds(claim, (bounds, ((1, 0),))), False)
        self.assertIs(claim_holds(claim, (((1, 0),), bounds, ())), False)

    def test_choices(self):
        table = ((1, 1), (1, 1))
        for choice in ((0, 1), (1, 0)):
            self.assertIs(claim_holds(("choice", table, 2), (choice, choice_paper(table))), True)
        self.assertIs(claim_holds(("choice", table, 3), ((0, 1), choice_paper(table))), False)
        # The sum of a choice that is not the least.
        self.assertIs(claim_holds(("choice", TABLE, 4), ((0, 1), choice_paper(TABLE))), False)
        self.assertIs(claim_holds(("choice", TABLE, 4), ((0, 1), ((4, 0), (0, 0)))), False)

    def test_least_scripts(self):
        u = read_plot("3c,1a(2x)")
        for paper, right in (
                ((X, FRONT), True), ((FRONT, X), True), ([X, FRONT], False), ((X, FRONT, X), False), ((X,), False),
                ((list(X), FRONT), False), ((X, FRONT, ("drop", 9)), False), ((("drop", 9), X), False), ((X, Y), False),
                ((X, ("move", 3, 0, False)), False), ((Y, X, FRONT), False)):
            self.assertIs(claim_holds(("least", T, u, 2), paper), right)
        # A script of three deeds leads there, but three is not the distance.
        self.assertEqual(run(T, (Y, X, FRONT)), u)
        self.assertIs(claim_holds(("least", T, u, 3), (Y, X, FRONT)), False)
        self.assertEqual(seal_claim(("least", T, u, 2)), script_between(T, u))

    def test_claims_without_papers(self):
        for claim in (("unlike", A, B), ("leads", T, (X,), run(T, (X,))), ("agree", T, (X,), (FRONT,)),
                      ("clash", T, (X,), (Y,))):
            self.assertEqual(seal_claim(claim), ())
            self.assertIs(claim_holds(claim, ()), True)
            for paper in PAPERS + NOTHINGS:
                self.assertIs(claim_holds(claim, paper), type(paper) is tuple and len(paper) == 0)


class RightClaim(unittest.TestCase):
    def test_numbers(self):
        for claim in TRUE + EDGES:
            if type(claim[-1]) is int:
                for n in (0, 1, -5, claim[-1] + 1, HUGE):
                    self.assertEqual(right_claim(claim[:-1] + (n,)), claim)

    def test_opposites(self):
        for kinds, parts, right in (
                (("alike", "unlike"), (A, B), "unlike"), (("alike", "unlike"), (A, A), "alike"),
                (("agree", "clash"), (T, (X,), (Y,)), "clash"), (("agree", "clash"), (T, (X, Y), (Y,)), "agree"),
                (("agree", "clash"), (T, (("drop", 9),), (X,)), None), (("agree", "clash"), (T, (X,), (("drop", 9),)), None),
                (("agree", "clash"), ((), (), ()), "agree")):
            for kind in kinds:
                self.assertEqual(right_claim((kind,) + parts), None if right is None else (right,) + parts)

    def test_others(self):
        for claim in UNTRUE + NEVER:
            if claim[0] in ("embedded", "leads", "same"):
                self.assertIs(right_claim(claim), None)
        for claim in TRUE:
            self.assertEqual(right_claim(claim), claim)

    def test_by_definition(self):
        for claim in random_claims(313, 20):
            right = right_claim(claim)
            if is_true(claim):
                self.assertEqual(right, claim)
            elif right is not None:
                self.assertTrue(is_true(right))
                self.assertEqual(right[1:4], claim[1:4] if claim[0] != "choice" and claim[0] != "least" else right[1:4])
                self.assertIs(claim_holds(right, seal_claim(right)), True)
            else:
                self.assertIn(claim[0], ("embedded", "leads", "same", "agree", "clash"))


class FullSizes(unittest.TestCase):
    def test_forests(self):
        for a in FULL:
            for b in (FULL[1], FULL[3], a):
                for claim in (("distance", a, b, SKEW, 0), ("loose", a, b, SKEW, 0), ("alike", a, b), ("embedded", a, b)):
                    right = right_claim(claim)
                    if right is not None:
                        self.assertIs(claim_holds(right, seal_claim(right)), True)
        row = tuple("abcdefghijkl")
        for prices in ALL_PRICES:
            right = right_claim(("row", row, row[::-1], prices, 0))
            self.assertIs(claim_holds(right, seal_claim(right)), True)
        table = tuple(tuple((7 * i + 5 * j) % 11 for j in range(5)) for i in range(5))
        right = right_claim(("choice", table, 0))
        self.assertIs(claim_holds(right, seal_claim(right)), True)

    def test_plots(self):
        rng = random.Random(314)
        plots = [read_plot(text) for text in FULL_PLOT_TEXTS]
        for t in plots:
            for u in plots:
                right = right_claim(("least", t, u, 0))
                self.assertIs(claim_holds(right, seal_claim(right)), True)
            p, q = (random_script(rng, t, 8, tuple(range(1, 14))) for _ in range(2))
            right = right_claim(("agree", t, p, q))
            self.assertIs(claim_holds(right, seal_claim(right)), True)
            self.assertIs(claim_holds(("leads", t, p, run(t, p)), ()), True)

    def test_histories(self):
        history = (("add", 1, "a", 0, 0), ("add", 2, "b", 1, 0), ("word", 1, "x"), ("word", 1, "x"), ("word", 2, "y"))
        for order in orders_of(history):
            claim = ("same", history, in_order(history, order))
            self.assertEqual(right_claim(claim), claim)
            self.assertIs(claim_holds(claim, seal_claim(claim)), True)

    def test_long_papers(self):
        self.assertIs(claim_holds(("same", HISTORY, HISTORY), (1,) * 4000), True)
        self.assertIs(claim_holds(("least", T, T, 0), (FRONT,) * 1000), False)
        self.assertIs(claim_holds(("least", T, T, 1000), (("word", 1, "a"),) * 1000), False)
        self.assertIs(claim_holds(("embedded", A, A), ((0, 0),) * 2000), False)
