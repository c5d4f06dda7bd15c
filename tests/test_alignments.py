"""Promise 18: alignments."""

import unittest
from itertools import product

from graftbook.alignments import (aligned_distance, alignment_holds, alignment_matching, alignment_price,
                                  best_alignment, side_of)
from graftbook.distances import forest_distance
from graftbook.errors import InvalidForest, InvalidNumber, InvalidPrices
from graftbook.foresttext import forest_text, read_forest
from graftbook.matchings import is_matching, matching_price
from graftbook.prices import prices_turned
from graftbook.tops import top_distance
from tests.samples import (ALL_PRICES, DEAR, EVEN, FREE, FULL, HUGE, NOTHINGS, SKEW, nested, random_pairs, random_prices,
                           relabelled, shapes, slow_change, slow_words, spoilt)

# The least matching of these two drops e and adds f, which no alignment can do.
CROSSED = read_forest("a(e(b,c),d)")
OTHER = read_forest("a(b,f(c,d))")
BOTH = (("a", "a", (("b", "", (("", "c", ()), ("d", "e", ()))), ("", "f", ()))), ("g", "g", ()))

NO_ALIGNMENTS = (
    (("", "", ()),), (("a", "a"),), (("a", "a", (), ()),), (("a", None, ()),), ((None, "a", ()),), (("a", "a", []),),
    (["a", "a", ()],), [("a", "a", ())], ("a", "a", ()), (("a", "A", ()),), (("abcdefghi", "a", ()),),
    (("a", "a", (("", "", ()),)),), (("a", "", (("", "", ()),)),), (("a", "a", None),), (("a", "a", ""),),
    (("a", 0, ()),), (("a", False, ()),), ((True, "a", ()),), (((), "a", ()),), (("a", (), ()),), "", None, True, 0,
    [], {}, (None,), ((),),
)


def marked_shapes(size):
    """All alignments of so many nodes whose words are all x."""
    for shape in shapes(size):
        for kinds in product((("x", "x"), ("x", ""), ("", "x")), repeat=size):
            left = list(reversed(kinds))

            def nodes(row):
                found = ()
                for _, children in row:
                    first, second = left.pop()
                    found += ((first, second, nodes(children)),)
                return found

            yield nodes(shape)


def slow_side(alignment, k):
    found = ()
    for node in alignment:
        below = slow_side(node[2], k)
        found += ((node[k], below),) if node[k] else below
    return found


def with_words(alignment, words, others):
    left, right = list(reversed(words)), list(reversed(others))

    def nodes(row):
        found = ()
        for first, second, children in row:
            node = (left.pop() if first else "", right.pop() if second else "")
            found += (node + (nodes(children),),)
        return found

    return nodes(alignment)


def slow_alignment_price(alignment, prices):
    price = 0
    for left, right, children in alignment:
        if left and right:
            price += slow_change(prices, left, right)
        else:
            price += prices[0] if left else prices[1]
        price += slow_alignment_price(children, prices)
    return price


class Sides(unittest.TestCase):
    def test_ordinary(self):
        self.assertEqual(forest_text(side_of(BOTH, 0)), "a(b(d)),g")
        self.assertEqual(forest_text(side_of(BOTH, 1)), "a(c,e,f),g")
        self.assertEqual(side_of((), 0), ())
        self.assertEqual(side_of((), 1), ())
        self.assertEqual(side_of((("a", "", ()),), 1), ())

    def test_by_definition(self):
        for alignment in marked_shapes(4):
            for k in (0, 1):
                self.assertEqual(side_of(alignment, k), slow_side(alignment, k))

    def test_no_side(self):
        for k in (2, -1, 10, HUGE, -HUGE, True, False, None, "0", (), [], (0,)):
            with self.assertRaises(InvalidNumber) as caught:
                side_of(BOTH, k)
            self.assertIs(caught.exception.value, k)


class Holds(unittest.TestCase):
    def test_ordinary(self):
        a, b = side_of(BOTH, 0), side_of(BOTH, 1)
        self.assertIs(alignment_holds(a, b, BOTH), True)
        self.assertIs(alignment_holds(b, a, BOTH), False)
        self.assertIs(alignment_holds(a, a, BOTH), False)
        self.assertIs(alignment_holds(b, b, BOTH), False)
        self.assertIs(alignment_holds((), (), ()), True)
        self.assertIs(alignment_holds(a, (), ()), False)
        self.assertIs(alignment_holds((), a, ()), False)
        one = read_forest("a")
        self.assertIs(alignment_holds(one, (), (("a", "", ()),)), True)
        self.assertIs(alignment_holds((), one, (("", "a", ()),)), True)
        self.assertIs(alignment_holds(one, one, (("a", "", ()), ("", "a", ()))), True)
        self.assertIs(alignment_holds(one, one, (("a", "", (("", "a", ()),)),)), True)

    def test_nodes_of_neither(self):
        one = read_forest("a")
        self.assertIs(alignment_holds(one, one, (("a", "a", ()),)), True)
        self.assertIs(alignment_holds(one, one, (("", "", (("a", "a", ()),)),)), False)
        self.assertIs(alignment_holds(one, one, (("a", "a", ()), ("", "", ()))), False)

    def test_any_value(self):
        one = read_forest("a")
        for value in NO_ALIGNMENTS + NOTHINGS:
            self.assertIs(alignment_holds(one, one, value), False, value)
            self.assertIs(alignment_holds((), (), value), False, value)
        for value in spoilt(BOTH):
            # A side that is lacking is spoilt by the same "", too.
            right = value == BOTH
            self.assertIs(alignment_holds(side_of(BOTH, 0), side_of(BOTH, 1), value), right, value)
        deep = ()
        for _ in range(30):
            deep = (("a", "a", deep),)
        self.assertIs(alignment_holds(one, one, deep), False)
        self.assertIs(alignment_holds(one, one, nested(60)), False)

    def test_full_size(self):
        a, row = FULL[1], FULL[0]
        words = slow_words(a)
        left = tuple((word, "", ()) for word in words)
        right = tuple(("", word, ()) for word in words)
        self.assertIs(alignment_holds(row, row, left + right), True)
        self.assertIs(alignment_holds(row, a, left + right), False)
        self.assertIs(alignment_holds(row, row, tuple((word, word, ()) for word in words)), True)

    def test_errors_in_order(self):
        for value in NOTHINGS:
            for args, wrong in (((value, None, None), 0), (((), value, None), 1)):
                with self.assertRaises(InvalidForest) as caught:
                    alignment_holds(*args)
                self.assertIs(caught.exception.value, args[wrong])


class Price(unittest.TestCase):
    def test_ordinary(self):
        self.assertEqual(alignment_price(BOTH, EVEN), 4)
        self.assertEqual(alignment_price(BOTH, SKEW), 2 + 3 + 4 + 3)
        self.assertEqual(alignment_price(BOTH, FREE), 0)
        self.assertEqual(alignment_price((), SKEW), 0)
        self.assertEqual(alignment_price((("a", "b", ()), ("b", "a", ())), SKEW), 10)

    def test_by_definition(self):
        for k, alignment in enumerate(marked_shapes(3)):
            words = ("abcabc"[k % 3:])[:3]
            alignment = with_words(alignment, words, words[::-1])
            for prices in ALL_PRICES:
                self.assertEqual(alignment_price(alignment, prices), slow_alignment_price(alignment, prices))

    def test_errors(self):
        for value in NOTHINGS:
            with self.assertRaises(InvalidPrices) as caught:
                alignment_price(BOTH, value)
            self.assertIs(caught.exception.value, value)


class Matching(unittest.TestCase):
    def test_ordinary(self):
        self.assertEqual(alignment_matching(BOTH), ((0, 0), (2, 2), (3, 4)))
        self.assertEqual(alignment_matching(()), ())
        self.assertEqual(alignment_matching((("a", "", ()), ("", "a", ()))), ())

    def test_is_a_matching_of_its_price(self):
        for k, shape in enumerate(marked_shapes(4)):
            alignment = with_words(shape, "abca"[k % 2:] + "a", "bacb")
            a, b = side_of(alignment, 0), side_of(alignment, 1)
            found = alignment_matching(alignment)
            self.assertTrue(is_matching(found, a, b))
            for prices in (EVEN, SKEW):
                self.assertEqual(matching_price(a, b, prices, found), alignment_price(alignment, prices))


class Distance(unittest.TestCase):
    def test_crossed(self):
        self.assertEqual(forest_distance(CROSSED, OTHER, EVEN), 2)
        self.assertEqual(aligned_distance(CROSSED, OTHER, EVEN), 4)
        self.assertEqual(top_distance(CROSSED, OTHER, EVEN), 5)
        best = best_alignment(CROSSED, OTHER, EVEN)
        self.assertIs(alignment_holds(CROSSED, OTHER, best), True)
        self.assertEqual(alignment_price(best, EVEN), 4)

    def test_empty(self):
        for prices in ALL_PRICES:
            self.assertEqual(aligned_distance((), (), prices), 0)
            self.assertEqual(best_alignment((), (), prices), ())
            self.assertEqual(aligned_distance(CROSSED, (), prices), 5 * prices[0])
            self.assertEqual(aligned_distance((), CROSSED, prices), 5 * prices[1])
        self.assertEqual(best_alignment(read_forest("a(b)"), (), EVEN), (("a", "", (("b", "", ()),)),))
        self.assertEqual(best_alignment((), read_forest("a,b"), EVEN), (("", "a", ()), ("", "b", ())))

    def test_prices_that_are_not_chained(self):
        self.assertEqual(aligned_distance(read_forest("a"), read_forest("b"), DEAR), 2)
        by_c = (5, 5, 9, (("a", "c", 0), ("c", "b", 0)))
        self.assertEqual(aligned_distance(read_forest("a"), read_forest("b"), by_c), 9)

    def test_by_definition(self):
        by_sides = {}
        for size in range(6):
            for alignment in marked_shapes(size):
                sides = (slow_side(alignment, 0), slow_side(alignment, 1))
                by_sides.setdefault(sides, []).append(alignment)
        forests = [a for size in range(5) for a in shapes(size)]
        for k, (a, b) in enumerate(product(forests, forests)):
            words, others = "abcb"[:len(slow_words(a))], "bcab"[:len(slow_words(b))]
            if len(words) + len(others) > 5:
                continue
            x = relabelled(a, "x" * len(words))
            y = relabelled(b, "x" * len(others))
            a, b = relabelled(a, words), relabelled(b, others)
            found = [with_words(alignment, words, others) for alignment in by_sides[(x, y)]]
            for prices in (EVEN, FREE, SKEW, random_prices(k), random_prices(k + 1)):
                least = min(slow_alignment_price(alignment, prices) for alignment in found)
                self.assertEqual(aligned_distance(a, b, prices), least)
                best = best_alignment(a, b, prices)
                self.assertIs(alignment_holds(a, b, best), True)
                self.assertEqual(alignment_price(best, prices), least)

    def test_between_the_other_distances(self):
        for k, (a, b) in enumerate(random_pairs(61, 200, 5)):
            for prices in (random_prices(k), ALL_PRICES[k % 4]):
                n = aligned_distance(a, b, prices)
                best = best_alignment(a, b, prices)
                self.assertIs(alignment_holds(a, b, best), True)
                self.assertEqual(alignment_price(best, prices), n)
                self.assertEqual(matching_price(a, b, prices, alignment_matching(best)), n)
                self.assertLessEqual(forest_distance(a, b, prices), n)
                self.assertLessEqual(n, top_distance(a, b, prices))
                self.assertEqual(aligned_distance(b, a, prices_turned(prices)), n)
                self.assertEqual(best_alignment(a, b, prices), best)

    def test_five_nodes(self):
        for a, b in product(list(shapes(5))[::4], list(shapes(5))[::5]):
            self.assertEqual(aligned_distance(a, a, SKEW), 0)
            b = relabelled(b, "abcde")
            best = best_alignment(a, b, SKEW)
            self.assertIs(alignment_holds(a, b, best), True)
            self.assertEqual(alignment_price(best, SKEW), aligned_distance(a, b, SKEW))

    def test_errors_in_order(self):
        for function in (aligned_distance, best_alignment):
            for value in NOTHINGS:
                for args, error, wrong in (
                        ((value, None, None), InvalidForest, 0), ((OTHER, value, None), InvalidForest, 1),
                        ((OTHER, CROSSED, value), InvalidPrices, 2)):
                    with self.assertRaises(error) as caught:
                        function(*args)
                    self.assertIs(caught.exception.value, args[wrong])
