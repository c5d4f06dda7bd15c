"""Promise 24: equal trees, shared forms."""

import random
import unittest

from graftbook.errors import InvalidForest, Undefined
from graftbook.foresttext import read_forest
from graftbook.twins import classes_of, greatest_twins, shared_form, unshared
from tests.samples import FULL, HUGE, NOTHINGS, random_forest, shapes, slow_words
from tests.test_patterns import slow_subtrees

TREE = read_forest("a(b(c),d,b(c)),d")
FORM = (("a", (1, 3, 1)), ("b", (2,)), ("c", ()), ("d", ()))


class Classes(unittest.TestCase):
    def test_ordinary(self):
        self.assertEqual(classes_of(TREE), (0, 1, 2, 3, 1, 2, 3))
        self.assertEqual(classes_of(()), ())
        self.assertEqual(classes_of(read_forest("a,a,b,a")), (0, 0, 1, 0))
        # Trees that are alike without order alone are not equal.
        self.assertEqual(classes_of(read_forest("a(b,c),a(c,b)")), (0, 1, 2, 3, 2, 1))
        self.assertEqual(classes_of(read_forest("a(a(a))")), (0, 1, 2))

    def test_by_definition(self):
        rng = random.Random(121)
        for size in range(13):
            for _ in range(20):
                a = random_forest(rng, size, "ab")
                trees = slow_subtrees(a)
                found = classes_of(a)
                self.assertEqual(len(found), size)
                for i in range(size):
                    self.assertEqual([found[i] == found[k] for k in range(size)], [trees[i] == tree for tree in trees])
                self.assertEqual(sorted(set(found)), list(range(len(set(found)))))
                self.assertEqual(list(dict.fromkeys(found)), sorted(set(found)))

    def test_full_size(self):
        for a in FULL:
            self.assertEqual(classes_of(a), tuple(range(12)))


class Twins(unittest.TestCase):
    def test_ordinary(self):
        self.assertEqual(greatest_twins(TREE), (1, 4))
        self.assertEqual(greatest_twins(read_forest("a,a,a")), (0, 1))
        self.assertEqual(greatest_twins(read_forest("a,b,b,a")), (0, 3))
        self.assertEqual(greatest_twins(read_forest("a,c(d),a,c(d)")), (1, 4))
        self.assertEqual(greatest_twins(read_forest("a(b),c(d),c(d),a(b)")), (0, 6))

    def test_none(self):
        for a in FULL + ((), read_forest("a"), read_forest("a(a)"), read_forest("a(b,c),a(c,d)")[:1]):
            self.assertIs(greatest_twins(a), None)

    def test_by_definition(self):
        rng = random.Random(122)
        for size in range(13):
            for _ in range(20):
                a = random_forest(rng, size, "ab")
                trees = slow_subtrees(a)
                pairs = [(i, k) for i in range(size) for k in range(i + 1, size) if trees[i] == trees[k]]
                best = min(pairs, key=lambda pair: (-len(slow_words((trees[pair[0]],))), pair), default=None)
                self.assertEqual(greatest_twins(a), best)


class SharedForm(unittest.TestCase):
    def test_ordinary(self):
        self.assertEqual(shared_form(TREE), FORM)
        self.assertEqual(shared_form(()), ())
        self.assertEqual(shared_form(read_forest("a,a")), (("a", ()),))
        self.assertEqual(unshared(FORM, (0, 3)), TREE)

    def test_by_definition(self):
        rng = random.Random(123)
        for size in range(13):
            for _ in range(20):
                a = random_forest(rng, size, "ab")
                classes, trees = classes_of(a), slow_subtrees(a)
                form = shared_form(a)
                self.assertEqual(len(form), len(set(classes)))
                for number, (word, children) in zip(classes, trees):
                    right = (word, tuple(classes[trees.index(child)] for child in children))
                    self.assertEqual(form[number], right)

    def test_reading_it_again(self):
        for a in list(FULL) + [a for size in range(7) for a in shapes(size)]:
            classes, trees = classes_of(a), slow_subtrees(a)
            roots = tuple(classes[trees.index(tree)] for tree in a)
            self.assertEqual(unshared(shared_form(a), roots), a)

    def test_errors(self):
        for value in NOTHINGS:
            for call in (classes_of, greatest_twins, shared_form):
                with self.assertRaises(InvalidForest) as caught:
                    call(value)
                self.assertIs(caught.exception.value, value)


class Unshared(unittest.TestCase):
    def undefined(self, form, roots):
        with self.assertRaises(Undefined) as caught:
            unshared(form, roots)
        self.assertEqual(caught.exception.what, "form")

    def test_ordinary(self):
        self.assertEqual(unshared((), ()), ())
        self.assertEqual(unshared(FORM, ()), ())
        self.assertEqual(unshared(FORM, (1, 1)), read_forest("b(c),b(c)"))
        # Classes may be in whatever sequence, equal, or not led to.
        self.assertEqual(unshared((("c", ()), ("a", (0, 2)), ("b", (0,))), (1,)), read_forest("a(c,b(c))"))
        self.assertEqual(unshared((("a", ()), ("a", ())), (1, 0, 1)), read_forest("a,a,a"))

    def test_numbers_of_no_class(self):
        for number in (4, -1, HUGE, -HUGE):
            self.undefined(FORM, (number,))
            self.undefined(FORM, (0, number))
            self.undefined(FORM + (("x", (number,)),), (0,))
            self.undefined(FORM[:3] + (("d", (2, number)),), ())
        self.undefined((), (0,))
        self.undefined((("a", (1,)),), ())

    def test_classes_that_contain_themselves(self):
        self.undefined((("a", (0,)),), ())
        self.undefined((("a", (0,)),), (0,))
        self.undefined((("a", (1,)), ("b", (0,))), ())
        self.undefined((("a", (1,)), ("b", (2,)), ("c", (3, 1)), ("d", ())), (3,))
        self.undefined(FORM + (("x", (4,)),), (0,))
        self.undefined(FORM + (("x", (0, 5)), ("y", (1, 4))), (0,))

    def test_sixty_nodes(self):
        leaf = ("a", ())
        self.assertEqual(unshared((leaf,), (0,) * 60), (leaf,) * 60)
        self.undefined((leaf,), (0,) * 61)
        tens = (("b", (1,) * 9), leaf)
        self.assertEqual(unshared(tens, (0,) * 6), (("b", (leaf,) * 9),) * 6)
        self.undefined(tens, (0,) * 6 + (1,))
        chain = tuple(("a", (k + 1,)) for k in range(59)) + (leaf,)
        self.assertEqual(len(slow_words(unshared(chain, (0,)))), 60)
        self.undefined(chain, (0, 59))
        self.undefined((("b", (1,)),) + tuple(("a", (k + 2,)) for k in range(59)) + (leaf,), (0,))

    def test_greater_classes_that_no_root_leads_to(self):
        doubling = tuple(("a", (k + 1, k + 1)) for k in range(200)) + (("b", ()),)
        self.assertEqual(unshared(doubling, (200,)), read_forest("b"))
        self.assertEqual(len(slow_words(unshared(doubling, (196,)))), 31)
        self.undefined(doubling, (195,))
        self.undefined(doubling, (0,))
        upward = (("b", ()),) + tuple(("a", (k, k)) for k in range(200))
        self.assertEqual(len(slow_words(unshared(upward, (4,)))), 31)
        self.undefined(upward, (200,))

    def test_long_chains_are_no_trouble(self):
        chain = tuple(("a", (k + 1,)) for k in range(600)) + (("b", ()),)
        self.assertEqual(unshared(chain, (600,)), read_forest("b"))
        self.undefined(chain, (0,))
        self.undefined(chain[:-1] + (("b", (0,)),), (600,))
