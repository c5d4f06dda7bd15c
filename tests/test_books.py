"""Promise 36: books."""

import random
import unittest

from graftbook.between import script_between
from graftbook.books import Book
from graftbook.errors import Clash, InvalidNumber, InvalidScript, Refusal, Undefined
from graftbook.plottext import plot_text, read_plot
from graftbook.scripts import run
from graftbook.threes import merged_three, three_agree
from tests.boards import NO_DEEDS, random_script, spoilt_scripts
from tests.samples import HUGE, NOTHINGS, kinds_are_plain

A = ("add", 1, "a", 0, 0)
B = ("add", 2, "b", 1, 0)
C = ("add", 3, "c", 1, 2)


def forked():
    """Versions 1 (from 0), 2 and 3 (from 1), 4 merged of 2 and 3."""
    book = Book()
    book.write(0, (A, B))
    book.write(1, (("word", 1, "x"),))
    book.write(1, [C])
    book.merge(2, 3)
    return book


def crossed():
    """Two merges of the same two versions, in both sequences, so that they have two bases."""
    book = forked()
    book.merge(3, 2)
    return book


def told(book):
    """All that a book has, as one value."""
    versions = range(book.size)
    return (book.size, book.text(), tuple(
        (book.plot(v), book.parents(v), book.script(v), book.elders(v)) for v in versions))


def slow_elders(book, v):
    found = {v}
    for parent in book.parents(v):
        found |= slow_elders(book, parent)
    return found


def random_book(rng, most):
    """A book of up to so many versions, with what was done to it besides."""
    book = Book()
    for _ in range(3 * most):
        if book.size > most:
            break
        v, w = rng.randrange(book.size), rng.randrange(book.size)
        if rng.random() < 0.6:
            book.write(v, random_script(rng, book.plot(v), 2, tuple(range(1, 13))))
        else:
            try:
                book.merge(v, w)
            except (Clash, Undefined):
                pass
    return book


class Versions(unittest.TestCase):
    def test_empty(self):
        book = Book()
        self.assertEqual((book.size, book.plot(0), book.parents(0), book.script(0)), (1, (), (), ()))
        self.assertEqual((book.elders(0), book.bases(0, 0), book.text()), ((0,), (0,), ""))

    def test_ordinary(self):
        book = forked()
        self.assertEqual(book.size, 5)
        self.assertEqual([plot_text(book.plot(v)) for v in range(5)], ["", "1a(2b)", "1x(2b)", "1a(2b,3c)", "1x(2b,3c)"])
        self.assertEqual([book.parents(v) for v in range(5)], [(), (0,), (1,), (1,), (2, 3)])
        self.assertEqual([book.script(v) for v in range(5)], [(), (A, B), (("word", 1, "x"),), (C,), (C,)])
        self.assertEqual([book.elders(v) for v in range(5)], [(0,), (0, 1), (0, 1, 2), (0, 1, 3), (0, 1, 2, 3, 4)])
        self.assertEqual(book.text(), "0 1a(2b)\n1 1x(2b)\n1 1a(2b,3c)\n2+3 1x(2b,3c)")

    def test_numbers_by_name(self):
        book = Book()
        self.assertEqual(book.write(script=(A, B), v=0), 1)
        self.assertEqual(book.write(v=1, script=(C,)), 2)
        self.assertEqual(book.write(1, (("word", 2, "x"),)), 3)
        self.assertEqual(book.merge(w=2, v=3), 4)
        self.assertEqual((book.plot(v=4), book.parents(v=4)), (read_plot("1a(2x,3c)"), (3, 2)))
        self.assertEqual((book.script(v=4), book.elders(v=4), book.bases(v=4, w=2)), ((C,), (0, 1, 2, 3, 4), (2,)))

    def test_empty_plots_and_scripts(self):
        book = Book()
        self.assertEqual(book.write(0, ()), 1)
        self.assertEqual(book.write(0, []), 2)
        self.assertEqual(book.merge(1, 2), 3)
        self.assertEqual(book.text(), "0 \n0 \n1+2 ")
        self.assertEqual([book.script(v) for v in range(4)], [(), (), (), ()])
        self.assertIs(type(book.script(2)), tuple)

    def test_books_are_apart(self):
        book, other = forked(), Book()
        before = told(book)
        other.write(0, (B[:3] + (0, 0),))
        self.assertEqual(told(book), before)
        self.assertEqual((other.size, other.text()), (2, "0 2b"))

    def test_what_is_given_is_not_kept(self):
        book, script = Book(), [A]
        book.write(0, script)
        script.append(B)
        self.assertEqual(book.script(1), (A,))
        self.assertTrue(kinds_are_plain(told(book)))

    def test_defined_in_the_class(self):
        for name in ("plot", "parents", "script", "write", "elders", "bases", "merge", "text"):
            self.assertIn(name, vars(Book))
        with self.assertRaises(TypeError):
            iter(Book())


class Elders(unittest.TestCase):
    def test_bases(self):
        book = crossed()
        self.assertEqual(book.bases(2, 3), (1,))
        self.assertEqual(book.bases(4, 5), (2, 3))
        self.assertEqual(book.bases(4, 4), (4,))
        self.assertEqual(book.bases(4, 3), (3,))
        self.assertEqual(book.bases(1, 4), (1,))
        self.assertEqual(book.bases(0, 5), (0,))

    def test_by_definition(self):
        rng = random.Random(291)
        several = 0
        for _ in range(60):
            book = random_book(rng, 11)
            for v in range(book.size):
                self.assertEqual(book.elders(v), tuple(sorted(slow_elders(book, v))))
                for w in range(book.size):
                    common = slow_elders(book, v) & slow_elders(book, w)
                    right = [k for k in common if not any(k != m and k in slow_elders(book, m) for m in common)]
                    self.assertEqual(book.bases(v, w), tuple(sorted(right)))
                    self.assertEqual(book.bases(w, v), book.bases(v, w))
                    several += len(right) > 1
        self.assertGreater(several, 0)


class Write(unittest.TestCase):
    def test_errors_leave_all(self):
        book = forked()
        before = told(book)
        for script, deed, reason in (
                ((("drop", 1),), ("drop", 1), "children"), ((C, C), C, "mark"), ((C, ("drop", 9)), ("drop", 9), "mark")):
            with self.assertRaises(Refusal) as caught:
                book.write(2, script)
            self.assertEqual((caught.exception.deed, caught.exception.reason), (deed, reason))
            self.assertEqual(told(book), before)
        for wrong, value in spoilt_scripts((("drop", 9), C), NO_DEEDS + NOTHINGS):
            with self.assertRaises(InvalidScript) as caught:
                book.write(2, wrong)
            self.assertIs(caught.exception.value, value)
        self.assertEqual(told(book), before)
        self.assertEqual(book.write(2, (C,)), 5)


class Merge(unittest.TestCase):
    def test_by_the_greatest_base(self):
        book = crossed()
        book.write(4, (("word", 2, "y"),))
        book.write(5, (("word", 3, "z"),))
        self.assertEqual(book.bases(6, 7), (2, 3))
        right = merged_three(book.plot(3), book.plot(6), book.plot(7))
        self.assertEqual(book.merge(6, 7), 8)
        self.assertEqual(book.plot(8), right)
        self.assertEqual(plot_text(right), "1x(2y,3z)")
        # By base 2 both sides would have added 3.
        self.assertIs(three_agree(book.plot(2), book.plot(6), book.plot(7)), False)

    def test_clash(self):
        book = crossed()
        book.write(4, (("word", 2, "y"),))
        book.write(5, (("word", 2, "z"),))
        before = told(book)
        for v, w, words in ((6, 7, "yz"), (7, 6, "zy")):
            with self.assertRaises(Clash) as caught:
                book.merge(v, w)
            self.assertEqual((caught.exception.deed, caught.exception.other), tuple(("word", 2, word) for word in words))
            self.assertEqual(told(book), before)
        self.assertEqual(book.write(0, ()), 8)

    def test_elders_of_one_another(self):
        book = forked()
        before = told(book)
        for v, w in ((0, 0), (4, 4), (0, 4), (4, 0), (1, 3), (3, 1), (2, 4), (4, 3)):
            with self.assertRaises(Undefined) as caught:
                book.merge(v, w)
            self.assertEqual(caught.exception.what, "merge")
            self.assertEqual(told(book), before)

    def test_by_definition(self):
        rng = random.Random(292)
        merges = 0
        for _ in range(60):
            book = random_book(rng, 11)
            self.assertEqual(len(book.text().split("\n")), max(book.size - 1, 1))
            lines = []
            for v in range(1, book.size):
                parents = book.parents(v)
                lines.append("+".join(map(str, parents)) + " " + plot_text(book.plot(v)))
                self.assertEqual(run(book.plot(parents[0]), book.script(v)), book.plot(v))
                if len(parents) == 2:
                    merges += 1
                    base = book.bases(*parents)[-1]
                    left, right = (book.plot(parent) for parent in parents)
                    self.assertEqual(book.plot(v), merged_three(book.plot(base), left, right))
                    self.assertEqual(book.script(v), script_between(left, book.plot(v)))
            self.assertEqual(book.text(), "\n".join(lines))
        self.assertGreater(merges, 30)


class Errors(unittest.TestCase):
    def test_versions_ahead_of_all(self):
        book = forked()
        before = told(book)
        for v in (-1, 5, HUGE, -HUGE, True):
            for call in (book.plot, book.parents, book.script, book.elders, lambda v: book.write(v, None),
                         lambda v: book.write(v, (("drop", 9),)), lambda v: book.bases(v, 99), lambda v: book.bases(1, v),
                         lambda v: book.merge(v, 99), lambda v: book.merge(2, v), lambda v: book.merge(v, v)):
                with self.assertRaises(InvalidNumber) as caught:
                    call(v)
                self.assertIs(caught.exception.value, v)
        self.assertEqual(told(book), before)
