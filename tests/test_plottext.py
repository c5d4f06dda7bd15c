"""Promise 25: texts of plots."""

import itertools
import re
import unittest

from graftbook.errors import InvalidPlot, InvalidText
from graftbook.foresttext import forest_text
from graftbook.plots import bare, marks_of
from graftbook.plottext import plot_text, read_plot
from tests.samples import FULL_PLOT_TEXTS, LONG_WORD, NO_PLOTS, NOTHINGS, random_plots

TWELVE_OPEN = "".join(f"{k}a(" for k in range(1, 13)) + "13a" + ")" * 12
THIRTEEN_OPEN = "".join(f"{k}a(" for k in range(1, 14)) + "14a" + ")" * 13

WRONG = {
    # Texts that end too early.
    "1": 1, "12": 2, "1a,": 3, "1a(": 3, "1a(2": 4, "1a(2b": 5, "1a(2b,": 6, "1a(2b(3c)": 9, "1a(2b),": 7,
    "1a,1": 4, "123456789": 9, "1a(2b)," + "3" * 9: 16,
    # No such sign there.
    "a": 0, ",": 0, "(": 0, ")": 0, " ": 0, "0": 0, "0a": 0, "-1a": 0, "A": 0, "1A": 1, "1 a": 1, "1a ": 2, " 1a": 0,
    "1,": 1, "1(": 1, "1)": 1, "1a)": 2, "1a,,": 3, "1a,)": 3, "1a,b": 3, "1a,0b": 3, "1a()": 3, "1a(b": 3,
    "1a(0b)": 3, "1a(2b))": 6, "1a(2b)3c": 6, "1a(2b)c": 6, "1a(2b)(": 6, "1a2b": 2, "1a2": 2, "1a((": 3, "1a(,": 3,
    "1a(2b)\n": 6, "1a\n": 2, "\n": 0, "1\u00e9": 1, "1\u0661a": 1, "\u0661a": 0, "1a,\u06f2b": 3, "1aB": 2,
    "1a(2b,": 6, "1a;2b": 2, "1a(2b(3c))d": 10,
    # Nine letters, ten figures.
    "1abcdefghi": 9, "1abcdefghia": 9, "1a(2abcdefghi)": 12, "1234567890a": 9, "1234567890": 9, "12345678901a": 9,
    "1a,1234567890b": 12, "1a(1234567890": 12,
    # Marks that came earlier.
    "1a,1b": 4, "1a(1b)": 4, "1a(2b),2c": 8, "12a,12b": 6, "1a(2b(3c,12d),3": 15, "1a(2b(3c,12d),3e)": 15,
    "123456789a,123456789b": 20, "123456789a(123456789b)": 20, "123456789a,1234567890": 20, "1a,1,": 4, "1a,1": 4,
    "1a,1)": 4, "1a,1(": 4, "1a,2b,1c,2d": 7,
    # The thirteenth bracket.
    THIRTEEN_OPEN: len("".join(f"{k}a(" for k in range(1, 13)) + "13a"),
    "".join(f"{k}a(" for k in range(1, 13)): len("".join(f"{k}a(" for k in range(1, 13))),
    TWELVE_OPEN + ")": len(TWELVE_OPEN), TWELVE_OPEN + "(": len(TWELVE_OPEN), TWELVE_OPEN[:-1]: len(TWELVE_OPEN) - 1,
}


def slow_read(text):
    """The plot whose text this is, None if there is none, by splitting at commas outside of brackets."""
    plot = slow_row(text) if text else ()
    marks = re.findall("[0-9]+", text)
    return plot if len(set(marks)) == len(marks) else None


def slow_row(text):
    depth, parts = 0, [""]
    for sign in text:
        depth += (sign == "(") - (sign == ")")
        if depth < 0 or depth > 12:
            return None
        if sign == "," and depth == 0:
            parts.append("")
        else:
            parts[-1] += sign
    row = [slow_spot(part) for part in parts]
    return None if depth or None in row else tuple(row)


def slow_spot(text):
    found = re.fullmatch(r"([1-9][0-9]{0,8})([a-z]{1,8})(\((.+)\))?", text)
    if not found:
        return None
    children = slow_row(found[4]) if found[3] else ()
    return None if children is None else (int(found[1]), found[2], children)


def can_go_on(text):
    """Whether some text that can be read begins so, its marks being short."""
    ends = ["", "z", "7z", "77z", "777z"]
    return any(slow_read(text + end + ")" * k) is not None for end in ends for k in range(4))


def slow_at(text):
    for at in range(len(text)):
        if not can_go_on(text[:at + 1]):
            return at
    return len(text)


class Texts(unittest.TestCase):
    def test_ordinary(self):
        plot = ((1, "a", ((2, "b", ()), (3, "c", ()))),)
        self.assertEqual(read_plot("1a(2b,3c)"), plot)
        self.assertEqual(plot_text(plot), "1a(2b,3c)")
        self.assertEqual(read_plot(""), ())
        self.assertEqual(plot_text(()), "")
        self.assertEqual(read_plot("10a,1a"), ((10, "a", ()), (1, "a", ())))
        self.assertEqual(read_plot("999999999" + LONG_WORD), ((999999999, LONG_WORD, ()),))
        self.assertEqual(read_plot("1a(2b(3c),4d),5e"), (
            (1, "a", ((2, "b", ((3, "c", ()),)), (4, "d", ()))), (5, "e", ())))

    def test_marks_that_begin_with_earlier_ones(self):
        self.assertEqual(marks_of(read_plot("1a,12b,123c(1234d)")), (1, 12, 123, 1234))
        self.assertEqual(marks_of(read_plot("12b,1a,2c")), (12, 1, 2))
        self.assertEqual(marks_of(read_plot("12345678a,123456789b")), (12345678, 123456789))
        # All of the marks of one figure are taken, longer ones are not.
        taken = ",".join(f"{k}a" for k in range(1, 10))
        self.assertEqual(len(marks_of(read_plot(taken + ",10b,90c"))), 11)

    def test_twelve_open(self):
        plot = read_plot(TWELVE_OPEN)
        self.assertEqual(marks_of(plot), tuple(range(1, 14)))
        self.assertEqual(plot_text(plot), TWELVE_OPEN)
        both = TWELVE_OPEN + ",14b(15c)"
        self.assertEqual(plot_text(read_plot(both)), both)

    def test_many_spots(self):
        text = ",".join(f"{k}a" for k in range(1, 90))
        self.assertEqual(plot_text(read_plot(text)), text)

    def test_wrong_texts(self):
        for text, at in WRONG.items():
            with self.assertRaises(InvalidText) as caught:
                read_plot(text)
            self.assertEqual((caught.exception.text, caught.exception.at), (text, at), text)

    def test_reading_the_text_gives_the_plot(self):
        for t in random_plots(141, 200, 12):
            text = plot_text(t)
            self.assertEqual(read_plot(text), t)
            self.assertEqual(slow_read(text), t)
            self.assertEqual(re.sub("[0-9]", "", text), forest_text(bare(t)))
        for text in FULL_PLOT_TEXTS:
            self.assertEqual(plot_text(read_plot(text)), text)

    def test_by_definition(self):
        readable = 0
        for length in range(7):
            for signs in itertools.product("12a(),", repeat=length):
                text = "".join(signs)
                if length > 4 and not can_go_on(text[:-2]):
                    continue
                right = slow_read(text)
                if right is not None:
                    readable += 1
                    self.assertEqual(read_plot(text), right)
                    self.assertEqual(plot_text(right), text)
                else:
                    with self.assertRaises(InvalidText) as caught:
                        read_plot(text)
                    self.assertEqual((caught.exception.text, caught.exception.at), (text, slow_at(text)))
        self.assertGreater(readable, 100)

    def test_each_changed_sign(self):
        text = "1a(2b,31cc(4d)),5e"
        for at in range(len(text)):
            for sign in "1204az(),A é":
                for other in (text[:at] + sign + text[at + 1:], text[:at] + sign + text[at:], text[:at] + text[at + 1:]):
                    right = slow_read(other)
                    if right is not None:
                        self.assertEqual(read_plot(other), right)
                    else:
                        with self.assertRaises(InvalidText) as caught:
                            read_plot(other)
                        self.assertEqual(caught.exception.at, slow_at(other), other)

    def test_no_strings(self):
        for value in NOTHINGS:
            if not isinstance(value, str):
                with self.assertRaises(InvalidText) as caught:
                    read_plot(value)
                self.assertIs(caught.exception.text, value)
                self.assertEqual(caught.exception.at, 0)

    def test_no_plots(self):
        for value in NO_PLOTS:
            with self.assertRaises(InvalidPlot) as caught:
                plot_text(value)
            self.assertIs(caught.exception.value, value)
