"""Promise 39: texts of values."""

import itertools
import random
import re
import unittest

from graftbook.claims import seal_claim
from graftbook.errors import InvalidText
from graftbook.foresttext import read_forest
from graftbook.plottext import read_plot
from graftbook.told import told, untold
from tests.samples import FULL, FULL_PLOT_TEXTS, LONG_WORD, NOTHINGS, SKEW, nested

PAIRS = {
    "5": 5, "0": 0, "-1": -1, "123456789": 123456789, "-999999999": -999999999, "10": 10, '"a"': "a",
    '"abcdefgh"': LONG_WORD, "()": (), "(1,)": (1,), "(1,2)": (1, 2), '(0,"a",())': (0, "a", ()), "((),)": ((),),
    "(((),),())": (((),), ()), '(("drop",1),)': (("drop", 1),), "(-5,-60)": (-5, -60), '("a",)': ("a",),
    "(((1,),),)": (((1,),),), "(1,(2,),3)": (1, (2,), 3), "(1,1,3,())": (1, 1, 3, ()),
    '(("word",2,"x"),("move",3,0,0))': (("word", 2, "x"), ("move", 3, 0, 0)),
}
SIXTY = "(" * 60 + ")" + ",)" * 59

WRONG = {
    # Ends that come too early.
    "": 0, "-": 1, '"': 1, '"a': 2, '"abcdefgh': 9, "(": 1, "(1": 2, "(1,": 3, "(1,2": 4, "(1,2,": 5, "((": 2, "(()": 3,
    "((1,)": 5, "(-": 2, "((),": 4, '(1,"a"': 6, '("a': 3, "(" * 60: 60, SIXTY[:-1]: len(SIXTY) - 1,
    # A single part without its comma, a comma where it must not stand.
    "(1)": 2, '("a")': 4, "(())": 3, "(1,2,)": 5, "(,)": 1, "(,1)": 1, "(1,,2)": 3, "(1,,)": 3, "((),(),)": 7, ",": 0,
    "((1),2)": 3,
    # Needless zeros, -0, ten figures.
    "00": 1, "01": 1, "-0": 1, "-01": 1, "(00,)": 2, "(01,)": 2, "(-0,)": 2, "1234567890": 9, "-1234567890": 10,
    "(1234567890,)": 10, "(-1234567890,)": 11, "--1": 1, "+1": 0, "1-": 1, "1.0": 1, "1_0": 1, "1e5": 1,
    # Words.
    '""': 1, '"abcdefghi"': 9, '"A"': 1, '"a1"': 2, '"a b"': 2, "a": 0, "'a'": 0, '"a""b"': 3, '("abcdefghi",)': 10,
    '"a"b': 3, '(a,)': 1, '"-"': 1, '("",)': 2, '"a,"': 2, '"\n"': 1, '"\u00e9"': 1,
    # Something behind the end, or ahead of the beginning, and blanks.
    "5 ": 1, " 5": 0, "5,": 1, "5)": 1, "())": 2, "()()": 2, "(1,)5": 4, "(1,) ": 4, "(1, 2)": 3, "( )": 1, "(1 ,)": 2,
    "5\n": 1, "()\n": 2, ")": 0, "[]": 0, "(1,]": 3, "[1,]": 0, "{}": 0, "None": 0, "True": 0, "\u0665": 0, "1\u0665": 1,
    '"a"5': 3, '5"a"': 1, "5()": 1, "5(": 1, '(5"a")': 2, '("a"5)': 4, "(()5)": 3,
    # The sixty-first tuple.
    "(" * 61: 60, "(" * 61 + ")" + ",)" * 60: 60, "(1," + "(" * 60: 62, "((),(" + "(" * 60: 63,
}


def can_be_read(text):
    """Whether some value has this text: all parts, from within, are put down to one sign."""
    if "." in text:
        return False
    text = re.sub(r'"[a-z]{1,8}"|(?<![-0-9])(0|-?[1-9][0-9]{0,8})(?![0-9])', ".", text)
    last = None
    while text != last:
        last = text
        text = re.sub(r"\(\)|\(\.,\)|\(\.(,\.)+\)", ".", text)
    return text == "."


def slow_told(value):
    return repr(value).replace(" ", "").replace("'", '"')


def random_value(rng, depth):
    if depth > 0 and rng.random() < 0.6:
        return tuple(random_value(rng, depth - 1) for _ in range(rng.randint(0, 4)))
    if rng.random() < 0.5:
        return rng.choice((0, 1, -1, 10, -10, 999999999, -999999999, rng.randint(-10 ** 6, 10 ** 6)))
    return "".join(rng.choice("abz") for _ in range(rng.randint(1, 8)))


class Told(unittest.TestCase):
    def test_ordinary(self):
        for text, value in PAIRS.items():
            self.assertEqual(told(value), text)

    def test_sixty_tuples(self):
        self.assertEqual(told(nested(59)), SIXTY)
        self.assertEqual(untold(SIXTY), nested(59))
        both = "(" + SIXTY[1:-2] + ",1)"
        self.assertEqual(untold(both), (nested(58), 1))
        # Side by side there may be more of them.
        many = (nested(50),) * 3
        self.assertEqual(untold(told(many)), many)

    def test_by_definition(self):
        rng = random.Random(301)
        for _ in range(500):
            value = random_value(rng, 5)
            self.assertEqual(told(value), slow_told(value))
            self.assertEqual(untold(told(value)), value)


class Untold(unittest.TestCase):
    def test_ordinary(self):
        for text, value in PAIRS.items():
            found = untold(text)
            self.assertEqual(found, value)
            self.assertIs(type(found), type(value))

    def wrong(self, text, at):
        with self.assertRaises(InvalidText) as caught:
            untold(text)
        self.assertEqual((caught.exception.text, caught.exception.at), (text, at), text)

    def test_wrong_texts(self):
        for text, at in WRONG.items():
            self.wrong(text, at)

    def test_by_definition(self):
        # All texts of up to six signs; where one is wrong, no longer text that begins so far can be read.
        readable = 0
        begins = {}
        for length in range(1, 7):
            for signs in itertools.product('10-"a(),', repeat=length):
                text = "".join(signs)
                if can_be_read(text):
                    readable += 1
                    self.assertEqual(slow_told(untold(text)), text)
                    continue
                with self.assertRaises(InvalidText) as caught:
                    untold(text)
                at = caught.exception.at
                begins[text[:at]] = True
                if at < length:
                    begins[text[:at + 1]] = False
        self.assertGreater(readable, 100)
        for begin, good in begins.items():
            self.assertIs(self.goes_on(begin), good, begin)

    def goes_on(self, begin):
        """Whether a text that begins so can be read, by putting ends behind it."""
        opened = begin.count("(") - begin.count(")")
        closings = [""] if opened == 0 else [
            ")" + "".join(ends) for ends in itertools.product((")", ",)"), repeat=max(opened - 1, 0))]
        for more in ("", "1", 'a"', '"', ",", ",1", "1,", "1,1", '",', 'a",', '",1', 'a",1', ",1,1"):
            if any(can_be_read(begin + more + closing) for closing in closings):
                return True
        return False

    def test_each_changed_sign(self):
        text = '(("word",21,"x"),(-5,),())'
        readable = 0
        for at in range(len(text)):
            for sign in '10-"a(), A':
                for other in (text[:at] + sign + text[at + 1:], text[:at] + sign + text[at:], text[:at] + text[at + 1:]):
                    if can_be_read(other):
                        readable += 1
                        self.assertEqual(slow_told(untold(other)), other)
                    else:
                        with self.assertRaises(InvalidText) as caught:
                            untold(other)
                        self.assertGreaterEqual(caught.exception.at, at)
        self.assertGreater(readable, 20)

    def test_each_beginning_ends_too_early(self):
        text = '(("word",21,"x"),(-5,),(),"ab",((),0))'
        for at in range(len(text)):
            self.wrong(text[:at], at)
            self.wrong(text[:at] + " " + text[at:], at)
            self.wrong(text[:at] + "\n", at)
            for sign in ".;:'[]{}<>+*/_!?#&|~^A\t\\\u00e9":
                self.wrong(text[:at] + sign, at)
                self.wrong(text[:at] + sign + text[at:], at)
            # Letters stand in words alone, figures in integers alone.
            for sign in "05" if text[:at].count('"') % 2 else "qz":
                self.wrong(text[:at] + sign, at)

    def test_claims_and_papers(self):
        claims = [("distance", a, b, SKEW, 0) for a in FULL[:2] for b in FULL[2:4]]
        claims += [("least", read_plot(a), read_plot(b), 0) for a in FULL_PLOT_TEXTS for b in FULL_PLOT_TEXTS]
        for claim in claims:
            self.assertEqual(untold(told(claim)), claim)
        claim = ("alike", read_forest("a(b,c(d))"), read_forest("a(c(d),b)"))
        self.assertEqual(untold(told((claim, seal_claim(claim)))), (claim, seal_claim(claim)))

    def test_no_strings(self):
        for value in NOTHINGS:
            if not isinstance(value, str):
                with self.assertRaises(InvalidText) as caught:
                    untold(value)
                self.assertIs(caught.exception.text, value)
                self.assertEqual(caught.exception.at, 0)

    def test_long_texts(self):
        value = tuple(range(-300, 300))
        self.assertEqual(untold(told(value)), value)
