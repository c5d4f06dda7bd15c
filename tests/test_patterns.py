"""Promise 23: patterns."""

import random
import unittest

from graftbook.errors import InvalidForest, Undefined
from graftbook.foresttext import forest_text, read_forest
from graftbook.patterns import filled, fits, found_at, is_pattern, taken
from tests.samples import FULL, NOTHINGS, random_forest, slow_nodes, spoilt

PATTERNS = (
    "", "a", "any", "rest", "any,any", "any,rest", "a,rest", "a(any)", "a(rest)", "a(any,rest)", "a(b,rest),rest",
    "any,a(rest),any", "a(rest),b(rest),rest", "a(b(c(rest)))", "a(any),b(any,rest)",
)
NO_PATTERNS = (
    "rest,a", "rest,rest", "rest,any", "a(rest,b)", "a(rest,rest)", "any(a)", "rest(a)", "any(any)", "any(rest)",
    "rest(rest)", "a(any(b))", "a(rest(b))", "a,rest,b", "a(rest),rest,any", "a(b(rest,c))", "a(b(any(c)))",
)


def slow_taken(pattern, a):
    """Tree by tree from the left: a list of what the words stand for, or None."""
    if not pattern:
        return None if a else []
    (word, children), behind = pattern[0], pattern[1:]
    if word == "rest":
        return [a]
    if not a:
        return None
    if word == "any":
        here = [a[:1]]
    else:
        here = slow_taken(children, a[0][1]) if a[0][0] == word else None
    further = slow_taken(behind, a[1:])
    return None if here is None or further is None else here + further


def slow_subtrees(a):
    return [found for tree in a for found in [tree] + slow_subtrees(tree[1])]


def random_pattern(rng, a):
    """A pattern that a fits, as a rule."""
    found = ()
    for word, children in a:
        if rng.random() < 0.1:
            return found + (("rest", ()),)
        if rng.random() < 0.2:
            found += (("any", ()),)
        else:
            found += ((word if rng.random() < 0.97 else "z", random_pattern(rng, children)),)
    if rng.random() < 0.15:
        found += (("rest", ()),)
    return found


class IsPattern(unittest.TestCase):
    def test_ordinary(self):
        for text in PATTERNS:
            self.assertIs(is_pattern(read_forest(text)), True, text)
        for text in NO_PATTERNS:
            self.assertIs(is_pattern(read_forest(text)), False, text)
        for a in FULL:
            self.assertIs(is_pattern(a), True)

    def test_words_that_are_alike(self):
        for text in ("anya(b)", "resta,b", "an(b)", "res,a", "arest(b),a", "restrest(a),b"):
            self.assertIs(is_pattern(read_forest(text)), True, text)

    def test_any_value(self):
        for value in NOTHINGS + (["any"], "any", "rest", ("any", ()), ("rest", ()), (("any", []),), (["any", ()],)):
            self.assertIs(is_pattern(value), False)
        for value in spoilt(read_forest("a(any,rest),b,rest")):
            self.assertIs(is_pattern(value), False, value)


class Fits(unittest.TestCase):
    def check(self, pattern, text, right):
        self.assertIs(fits(read_forest(pattern), read_forest(text)), right, (pattern, text))

    def test_ordinary(self):
        for pattern, text in (("", ""), ("a(b)", "a(b)"), ("any", "a"), ("any", "a(b,c)"), ("rest", ""),
                              ("rest", "a(b),c"), ("a(rest)", "a"), ("a(rest)", "a(b(c),d)"), ("a,rest", "a"),
                              ("a,rest", "a,b,c(d)"), ("any,rest", "a"), ("any,any", "a(b),c"),
                              ("a(any,b(rest)),c", "a(d(e),b),c")):
            self.check(pattern, text, True)
        for pattern, text in (("", "a"), ("a", ""), ("a(b)", "a"), ("a", "a(b)"), ("any", ""), ("any", "a,b"),
                              ("any,rest", ""), ("a,rest", "b"), ("a,rest", ""), ("a(any)", "a"),
                              ("a(any)", "a(b,c)"), ("any,any", "a(b)"), ("b(rest)", "a(b)"), ("a(rest)", "a,b"),
                              ("a(any,b(rest)),c", "a(d(e),c),c"), ("a(any,b(rest)),c", "a(d(e),b),d")):
            self.check(pattern, text, False)

    def test_both_words_in_the_forest(self):
        for pattern, text, right in (
                ("any", "any(a)", True), ("any", "rest(any),a", False), ("rest", "rest,any(rest)", True),
                ("a(any)", "a(rest(b))", True), ("a", "any", False), ("a", "rest", False), ("a(b)", "a(any)", False),
                ("a", "a,rest", False), ("rest", "rest(a,b),rest", True)):
            self.check(pattern, text, right)

    def test_by_definition(self):
        rng = random.Random(111)
        fitting = 0
        for k in range(600):
            a = random_forest(rng, rng.randint(0, 12), ("a", "b", "any", "rest"))
            plain = random_forest(rng, rng.randint(0, 12), "ab") if k % 4 == 0 else a
            pattern = random_pattern(rng, plain)
            if not is_pattern(pattern):
                continue
            right = slow_taken(pattern, a)
            self.assertIs(fits(pattern, a), right is not None)
            if right is None:
                with self.assertRaises(Undefined) as caught:
                    taken(pattern, a)
                self.assertEqual(caught.exception.what, "fit")
            else:
                fitting += 1
                self.assertEqual(taken(pattern, a), tuple(right))
                self.assertEqual(filled(pattern, right), a)
                self.assertEqual(filled(pattern, tuple(right)), a)
        self.assertGreater(fitting, 100)

    def test_full_size(self):
        for a in FULL:
            self.assertIs(fits(a, a), True)
            self.assertEqual(taken(a, a), ())
            self.assertEqual(taken(read_forest("rest"), a), (a,))
            for b in FULL:
                self.assertIs(fits(a, b), a == b)
        row = read_forest(",".join(["any"] * 12))
        self.assertEqual(taken(row, FULL[0]), tuple((tree,) for tree in FULL[0]))


class Taken(unittest.TestCase):
    def test_ordinary(self):
        pattern = read_forest("any,a(b,any,rest),rest")
        a = read_forest("x(y),a(b,c(d),e,f(g)),h,i(j)")
        found = taken(pattern, a)
        self.assertEqual([forest_text(forest) for forest in found], ["x(y)", "c(d)", "e,f(g)", "h,i(j)"])
        self.assertEqual(filled(pattern, found), a)
        self.assertEqual(taken((), ()), ())
        self.assertEqual(taken(read_forest("rest"), ()), ((),))
        self.assertEqual(taken(read_forest("a(rest),rest"), read_forest("a")), ((), ()))

    def test_no_fit(self):
        for pattern, text in (("a", "b"), ("any", ""), ("any", "a,b"), ("a(rest)", "b")):
            with self.assertRaises(Undefined) as caught:
                taken(read_forest(pattern), read_forest(text))
            self.assertEqual(caught.exception.what, "fit")


class Filled(unittest.TestCase):
    def test_ordinary(self):
        pattern = read_forest("any,a(rest),rest")
        forests = [read_forest("x(y)"), read_forest("b,c(d)"), ()]
        self.assertEqual(forest_text(filled(pattern, forests)), "x(y),a(b,c(d))")
        self.assertEqual(len(forests), 3)
        self.assertEqual(filled((), ()), ())
        self.assertEqual(filled(read_forest("a(b)"), []), read_forest("a(b)"))
        self.assertEqual(filled(read_forest("rest"), [()]), ())
        self.assertEqual(filled(read_forest("rest"), FULL[:1]), FULL[0])

    def test_both_words_in_what_is_filled_in(self):
        words = read_forest("any(rest,a)")
        self.assertEqual(filled(read_forest("any,rest"), (words, words)), words + words)

    def test_no_fill(self):
        one, two = read_forest("a"), read_forest("a,b")
        for pattern, forests in (
                ("", (one,)), ("a", (one,)), ("any", ()), ("any", (one, one)), ("any", ((),)), ("any", (two,)),
                ("rest", ()), ("rest", (one, one)), ("any,rest", (one,)), ("any,rest", (two, one)),
                ("any,rest", ((), ())), ("a(any)", (two,)), ("a(any),any", (one, ())), ("any,rest", (one, one, one))):
            for kind in (list, tuple):
                with self.assertRaises(Undefined) as caught:
                    filled(read_forest(pattern), kind(forests))
                self.assertEqual(caught.exception.what, "fill")

    def test_members_that_are_no_forests(self):
        for value in NOTHINGS:
            for forests in ((value,), [(), value, None], [value] * 3):
                with self.assertRaises(InvalidForest) as caught:
                    filled(read_forest("any"), forests)
                self.assertIs(caught.exception.value, value)


class FoundAt(unittest.TestCase):
    def check(self, pattern, text, right):
        self.assertEqual(found_at(read_forest(pattern), read_forest(text)), right, (pattern, text))

    def test_ordinary(self):
        self.check("a(any)", "a(a(b)),a(c,d),a(e)", (0, 1, 6))
        self.check("a", "a(a,b(a))", (1, 3))
        self.check("a(rest)", "a(a,b(a))", (0, 1, 3))
        self.check("b(a)", "a(a,b(a))", (2,))
        self.check("c", "a(a,b(a))", ())

    def test_either_word_alone(self):
        for a in FULL:
            for word in ("any", "rest"):
                self.assertEqual(found_at(read_forest(word), a), tuple(range(12)))
                self.assertEqual(found_at(read_forest(word), ()), ())

    def test_both_words_in_the_forest(self):
        self.check("a(rest)", "any(a,rest(a(b)),a)", (1, 3, 5))
        self.check("a(any)", "a(any(b),any)", ())
        self.check("any", "rest(any,rest)", (0, 1, 2))

    def test_by_definition(self):
        rng = random.Random(112)
        found = 0
        for _ in range(300):
            a = random_forest(rng, rng.randint(1, 12), "ab")
            pattern = random_pattern(rng, (rng.choice(slow_subtrees(a)),))[:1]
            right = [k for k, tree in enumerate(slow_subtrees(a)) if slow_taken(pattern, (tree,)) is not None]
            self.assertEqual(found_at(pattern, a), tuple(right))
            self.assertEqual(len(slow_nodes(a)), len(slow_subtrees(a)))
            found += len(right)
        self.assertGreater(found, 300)


class Errors(unittest.TestCase):
    def test_in_order(self):
        calls = (fits, taken, found_at, lambda pattern, a: filled(pattern, (a,)))
        wrong = NOTHINGS + tuple(read_forest(text) for text in NO_PATTERNS)
        for call in calls:
            for value in wrong:
                for a in (None, (), read_forest("a")):
                    with self.assertRaises(InvalidForest) as caught:
                        call(value, a)
                    self.assertIs(caught.exception.value, value)
            for value in NOTHINGS:
                with self.assertRaises(InvalidForest) as caught:
                    call(read_forest("any"), value)
                self.assertIs(caught.exception.value, value)

    def test_patterns_ahead_of_fill(self):
        with self.assertRaises(InvalidForest) as caught:
            filled(read_forest("any(a)"), ())
        self.assertEqual(caught.exception.value, read_forest("any(a)"))
        # What is no pattern may be filled in all the same.
        self.assertEqual(filled(read_forest("any"), [read_forest("any(a)")]), read_forest("any(a)"))
