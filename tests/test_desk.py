"""Promises 40 and 41: the desk."""

import random
import unittest

from graftbook.between import script_between
from graftbook.claims import claim_holds, right_claim
from graftbook.desk import Desk, replayed
from graftbook.embeddings import common_forest
from graftbook.errors import (
    Clash, GraftError, InvalidCommand, InvalidPrices, InvalidScript, InvalidText, NothingToUndo, Refusal, Undefined,
    UnknownName,
)
from graftbook.foresttext import forest_text, read_forest
from graftbook.merges import merged
from graftbook.plots import bare
from graftbook.plottext import plot_text, read_plot
from graftbook.scripts import run
from graftbook.told import told, untold
from tests.boards import NO_DEEDS
from tests.samples import FULL_PLOT_TEXTS, FULL_TEXTS, HUGE, NOTHINGS, kinds_are_plain

LINES = (
    "let a forest a(b,c(d))", "let b forest a(b,d)", "let e forest ", "let p prices (1,1,1,())",
    "let t plot 1a(2b,3c)", "let u plot 3c,1a(2x)", 'let x script (("word",2,"x"),)', 'let y script (("word",2,"y"),)',
    'let m script (("move",3,0,0),)', 'let z script (("drop",9),)', "let n script ()",
)
NAMES = ("a", "b", "e", "m", "n", "p", "t", "u", "x", "y", "z")
A, B = read_forest("a(b,c(d))"), read_forest("a(b,d)")
EVEN = (1, 1, 1, ())
T, U = read_plot("1a(2b,3c)"), read_plot("3c,1a(2x)")
X, Y, M = (("word", 2, "x"),), (("word", 2, "y"),), (("move", 3, 0, 0),)


def laid():
    """A desk with values of all sorts."""
    return replayed(LINES)


def state(desk):
    """All that is seen of a desk, but what can be done again."""
    names = desk.run("names")
    values = [(name, desk.value(name), desk.run("show " + name)) for name in names.split()]
    return (names, values, desk.claims, desk.lines, desk.run("mark"))


def whole(desk):
    """All that is seen of a desk, and what can be done again; the desk is left as it was."""
    found, lines = state(desk), []
    while True:
        try:
            lines.append(desk.run("redo"))
        except NothingToUndo:
            break
    for _ in lines:
        desk.run("undo")
    return (found, lines)


class DeskTest(unittest.TestCase):
    def raises(self, desk, command, error, **attributes):
        """A line raises an error with these attributes and changes nothing."""
        before = whole(desk)
        with self.assertRaises(error) as caught:
            desk.run(command)
        self.assertIs(type(caught.exception), error)
        found = {name: getattr(caught.exception, name) for name in attributes}
        self.assertEqual(found, attributes, command)
        self.assertEqual(whole(desk), before)

    def invalid(self, desk, line, at):
        self.raises(desk, line, InvalidCommand, line=line, at=at)


class NewDesk(DeskTest):
    def test_empty(self):
        desk = Desk()
        self.assertEqual((desk.claims, desk.lines), ((), ()))
        self.assertEqual((desk.run("names"), desk.run("mark"), desk.run("back 0")), ("", "0", ""))
        self.assertEqual(state(replayed([])), state(replayed(())))
        self.assertEqual(state(replayed(())), ("", [], (), (), "0"))

    def test_the_class(self):
        for name in ("run", "value"):
            self.assertIn(name, vars(Desk))
        with self.assertRaises(TypeError):
            iter(Desk())
        self.assertEqual(Desk().run(line="mark"), "0")
        self.assertEqual(laid().value(name="t"), T)
        self.assertEqual(replayed(lines=["let a forest b"]).value("a"), read_forest("b"))

    def test_desks_are_apart(self):
        desk, other = laid(), laid()
        desk.run("drop a")
        self.assertEqual(state(other), state(laid()))


class Let(DeskTest):
    def test_ordinary(self):
        desk = Desk()
        for line in LINES:
            _, name, sort, text = line.split(" ", 3)
            self.assertEqual(desk.run(line), text)
            self.assertEqual(desk.run("show " + name), text)
        self.assertEqual(desk.run("names"), " ".join(NAMES))
        self.assertEqual(desk.lines, LINES)
        for name, value in (("a", A), ("e", ()), ("p", EVEN), ("t", T), ("x", X), ("n", ())):
            self.assertEqual(desk.value(name), value)
            self.assertTrue(kinds_are_plain(desk.value(name)))

    def test_another_value(self):
        desk = laid()
        desk.run("let a plot 1a")
        self.assertEqual(desk.value("a"), ((1, "a", ()),))
        desk.run("let a prices (0,0,0,())")
        self.assertEqual(desk.run("show a"), "(0,0,0,())")
        self.assertEqual(desk.run("names"), " ".join(NAMES))

    def test_names_are_words(self):
        desk = Desk()
        for name in ("let", "forest", "plot", "names", "abcdefgh", "undo", "z"):
            desk.run(f"let {name} forest {name}")
        self.assertEqual(desk.run("names"), "abcdefgh forest let names plot undo z")
        self.assertEqual(desk.run("show let"), "let")

    def test_names_that_are_words_of_forms(self):
        for name in ("show", "names", "mark", "undo", "redo", "back", "drop", "let", "alike", "forest", "plot"):
            desk = Desk()
            self.assertEqual(desk.run(f"let {name} plot 1a"), "1a")
            self.assertEqual(desk.run("show " + name), "1a")
            self.assertEqual(desk.run(f"bare {name} {name}"), "a")
            self.assertEqual(desk.run(f"alike {name} {name}"), '("alike",(("a",()),),(("a",()),))')
            self.assertEqual(desk.run("drop " + name), "")
            self.assertEqual(desk.run("names"), "")
            self.assertEqual(desk.run("undo"), "drop " + name)
            self.assertEqual(desk.run("mark"), "3")

    def test_empty_text(self):
        desk = Desk()
        self.assertEqual(desk.run("let a forest "), "")
        self.assertEqual(desk.run("let b plot "), "")
        for sort in ("script", "prices"):
            self.raises(desk, f"let c {sort} ", InvalidText, text="", at=0)
        for sort in ("forest", "plot", "script", "prices"):
            self.invalid(desk, "let c " + sort, 3)

    def test_texts_with_blanks(self):
        desk = Desk()
        for sort, text, at in (
                ("forest", " ", 0), ("forest", "  a", 0), ("forest", "a b", 1), ("forest", "a ", 1), ("plot", "1a ", 2),
                ("plot", "1a, 2b", 3), ("script", "() ", 2), ("script", '(("drop", 1),)', 9), ("prices", "(1, 1)", 3),
                ("prices", " (1,1,1,())", 0), ("forest", "a\n", 1), ("forest", "\u00e9", 0)):
            self.raises(desk, f"let a {sort} {text}", InvalidText, text=text, at=at)

    def test_wrong_texts(self):
        desk = laid()
        for sort, text, at in (
                ("forest", "a(", 2), ("forest", "A", 0), ("forest", "abcdefghi", 8), ("plot", "1a,1b", 4), ("plot", "a", 0),
                ("script", "(1)", 2), ("script", "x", 0), ("script", '("drop"', 7), ("prices", "(1,1,01,())", 6)):
            self.raises(desk, f"let a {sort} {text}", InvalidText, text=text, at=at)

    def test_no_scripts_and_no_prices(self):
        desk = laid()
        values = [value for value in NO_DEEDS + NOTHINGS if is_told(value)]
        for value in values + [(M, "a"), (X[0], 5), (("drop", 0),), ((),), 5, "a", EVEN]:
            scripts = ((value,), (X[0], value)) + (() if value == () else (value,))
            for script in scripts:
                self.raises(desk, "let x script " + told(script), InvalidScript, value=script)
            if value not in (EVEN,) and not is_even(value):
                self.raises(desk, "let p prices " + told(value), InvalidPrices, value=value)
        self.raises(desk, 'let x script ("drop",1)', InvalidScript, value=("drop", 1))
        self.raises(desk, 'let p prices (1,1,1,(("a","a",1),))', InvalidPrices, value=(1, 1, 1, (("a", "a", 1),)))
        self.raises(desk, "let p prices (1,1,-1,())", InvalidPrices, value=(1, 1, -1, ()))


def is_told(value):
    """Whether a value is one that has a text."""
    try:
        return untold(told(value)) == value
    except (GraftError, TypeError, ValueError):
        return False


def is_even(value):
    return type(value) is tuple and value == EVEN


class Claims(DeskTest):
    def test_ordinary(self):
        desk = laid()
        for line, claim in (
                ("distance a b p", ("distance", A, B, EVEN, 1)), ("distance b a p", ("distance", B, A, EVEN, 1)),
                ("distance a e p", ("distance", A, (), EVEN, 4)), ("loose a b p", ("loose", A, B, EVEN, 2)),
                ("alike a b", ("unlike", A, B)), ("alike a a", ("alike", A, A)), ("embedded b a", ("embedded", B, A)),
                ("agree t x m", ("agree", T, X, M)), ("agree t x y", ("clash", T, X, Y)), ("agree t n n", ("agree", T, (), ())),
                ("least t u", ("least", T, U, 2)), ("least t t", ("least", T, T, 0))):
            many = len(desk.claims)
            self.assertEqual(desk.run(line), told(claim))
            self.assertEqual(len(desk.claims), many + 1)
            made, paper = desk.claims[-1]
            self.assertEqual(made, claim)
            self.assertEqual(right_claim(made), made)
            self.assertIs(claim_holds(made, paper), True)
            self.assertEqual(desk.lines[-1], line)
        self.assertTrue(kinds_are_plain(desk.claims))
        self.assertEqual(desk.run("names"), " ".join(NAMES))

    def test_none(self):
        desk = laid()
        for line in ("embedded a b", "agree t z x", "agree t x z", "agree t z z", "embedded a e"):
            self.raises(desk, line, Undefined, what="claim")
        self.assertEqual(desk.claims, ())

    def test_twice(self):
        desk = laid()
        desk.run("alike a b")
        desk.run("least t u")
        desk.run("alike a b")
        self.assertEqual([claim[0] for claim, _ in desk.claims], ["unlike", "least", "unlike"])
        desk.run("undo")
        self.assertEqual([claim[0] for claim, _ in desk.claims], ["unlike", "least"])
        desk.run("back 11")
        self.assertEqual(desk.claims, ())
        desk.run("redo")
        self.assertEqual([claim[0] for claim, _ in desk.claims], ["unlike"])

    def test_claims_stay_when_names_go(self):
        desk = laid()
        desk.run("alike a b")
        before = desk.claims
        desk.run("drop a")
        desk.run("let b forest x")
        self.assertEqual(desk.claims, before)


class Making(DeskTest):
    def test_ordinary(self):
        desk = laid()
        for line, value, text in (
                ("script s t u", script_between(T, U), told), ("script s u t", script_between(U, T), told),
                ("script s t t", (), told), ("apply s t x", run(T, X), plot_text), ("apply t t n", T, plot_text),
                ("merge s t x m", merged(T, X, M), plot_text), ("merge s t n n", T, plot_text), ("bare s u", bare(U), forest_text),
                ("common s a b", common_forest(A, B), forest_text), ("common a a e", (), forest_text),
                ("bare t t", bare(T), forest_text)):
            name = line.split(" ")[1]
            self.assertEqual(desk.run(line), text(value), line)
            self.assertEqual(desk.value(name), value)
            self.assertEqual(desk.run("show " + name), text(value))
            self.assertEqual(desk.lines[-1], line)

    def test_errors_of_the_functions(self):
        desk = laid()
        desk.run('let w script (("word",2,"x"),("move",1,2,0),("drop",8))')
        self.raises(desk, "apply s t z", Refusal, deed=("drop", 9), reason="mark")
        self.raises(desk, "apply t t w", Refusal, deed=("move", 1, 2, 0), reason="inside")
        self.raises(desk, "merge s t x y", Clash, deed=X[0], other=Y[0])
        self.raises(desk, "merge s t y x", Clash, deed=Y[0], other=X[0])
        self.raises(desk, "merge t t z w", Refusal, deed=("drop", 9), reason="mark")
        self.raises(desk, "merge t t w z", Refusal, deed=("move", 1, 2, 0), reason="inside")

    def test_sorts_go_on(self):
        desk = laid()
        desk.run("script s t u")
        desk.run("apply v t s")
        self.assertEqual(desk.value("v"), U)
        desk.run("bare f v")
        desk.run("alike f f")
        self.assertEqual(desk.claims[-1][0], ("alike", bare(U), bare(U)))
        desk.run("merge w t s n")
        self.assertEqual(desk.value("w"), U)
        desk.run("common g f a")
        self.assertEqual(desk.run("embedded g f"), told(("embedded", desk.value("g"), bare(U))))

    def test_drop(self):
        desk = laid()
        self.assertEqual(desk.run("drop t"), "")
        self.raises(desk, "show t", UnknownName, name="t")
        self.raises(desk, "drop t", UnknownName, name="t")
        self.assertEqual(desk.run("names"), "a b e m n p u x y z")
        self.assertEqual(desk.lines[-1], "drop t")

    def test_full_sizes(self):
        desk = Desk()
        for k, text in enumerate(FULL_TEXTS):
            desk.run(f"let f{'abcde'[k]} forest {text}")
        for k, text in enumerate(FULL_PLOT_TEXTS):
            desk.run(f"let p{'abcde'[k]} plot {text}")
        desk.run('let prices prices (2,3,4,(("a","b",1),("b","c",0)))')
        for line in ("distance fa fb prices", "loose fc fd prices", "alike fa fe", "embedded fd fd", "least pa pb",
                     "least pc pd", "script s pa pc", "apply q pa s", "script r pa pb", "agree pa s r", "bare f pb"):
            desk.run(line)
        self.assertEqual(desk.value("q"), desk.value("pc"))
        for claim, paper in desk.claims:
            self.assertIs(claim_holds(claim, paper), True)
        self.assertEqual(state(replayed(desk.lines)), state(desk))


class Looking(DeskTest):
    def test_show_names_mark_are_no_deeds(self):
        desk = laid()
        desk.run("undo")
        before = whole(desk)
        for line, answer in (("show a", "a(b,c(d))"), ("show e", ""), ("names", "a b e m p t u x y z"), ("mark", "10"),
                             ("back 10", "")):
            self.assertEqual(desk.run(line), answer)
            self.assertEqual(whole(desk), before)
        self.assertEqual(desk.run("redo"), "let n script ()")

    def test_names_ascend(self):
        desk = Desk()
        for name in ("b", "ab", "abc", "a", "ba"):
            desk.run(f"let {name} forest ")
        self.assertEqual(desk.run("names"), "a ab abc b ba")

    def test_value(self):
        desk = laid()
        for name in NOTHINGS + ("A", "aa", "forest", "", HUGE, ["a"], ("a",), None, "a "):
            if name == "a" and type(name) is str:
                continue
            with self.assertRaises(UnknownName) as caught:
                desk.value(name)
            self.assertIs(caught.exception.name, name)


class Undo(DeskTest):
    def test_undo_and_redo(self):
        desk = Desk()
        states = [state(desk)]
        lines = LINES + ("alike a b", "drop a", "let b forest b(c)", "script b t u", "let b script ()", "let n script ()")
        for line in lines:
            desk.run(line)
            states.append(state(desk))
        for k in reversed(range(len(lines))):
            self.assertEqual(desk.run("undo"), lines[k])
            self.assertEqual(state(desk), states[k])
        self.raises(desk, "undo", NothingToUndo, deed="undo")
        for k in range(len(lines)):
            self.assertEqual(desk.run("redo"), lines[k])
            self.assertEqual(state(desk), states[k + 1])
        self.raises(desk, "redo", NothingToUndo, deed="redo")

    def test_deeds_that_change_nothing(self):
        desk = laid()
        before = state(desk)
        desk.run("let a forest a(b,c(d))")
        desk.run("apply t t n")
        self.assertEqual(desk.run("mark"), "13")
        self.assertEqual(desk.run("undo"), "apply t t n")
        self.assertEqual(desk.run("undo"), "let a forest a(b,c(d))")
        self.assertEqual(state(desk), before)

    def test_nothing(self):
        desk = Desk()
        self.raises(desk, "undo", NothingToUndo, deed="undo")
        self.raises(desk, "redo", NothingToUndo, deed="redo")
        self.raises(desk, "back 1", NothingToUndo, deed="back")
        desk.run("let a forest a")
        self.raises(desk, "redo", NothingToUndo, deed="redo")
        self.raises(desk, "back 2", NothingToUndo, deed="back")

    def test_redo_behind_another_deed(self):
        for other in ("drop b", "let a forest x", "alike b b", "bare t t", "script s t t"):
            desk = laid()
            desk.run("undo")
            desk.run("undo")
            desk.run(other)
            self.raises(desk, "redo", NothingToUndo, deed="redo")
            # Only what is undone since then is done again.
            desk.run("undo")
            self.assertEqual(desk.run("redo"), other)
            self.raises(desk, "redo", NothingToUndo, deed="redo")
            self.assertEqual(desk.lines, LINES[:9] + (other,))

    def test_redo_behind_an_error(self):
        desk = laid()
        desk.run("undo")
        for line, error in (("drop q", UnknownName), ("let a forest (", InvalidText), ("embedded a b", Undefined),
                            ("", InvalidCommand), ("back 99", NothingToUndo), ("merge s t x y", Clash)):
            with self.assertRaises(error):
                desk.run(line)
        self.assertEqual(desk.run("redo"), "let n script ()")

    def test_undo_and_redo_in_turn(self):
        desk = laid()
        for line in ("undo", "undo", "undo"):
            desk.run(line)
        self.assertEqual(desk.run("redo"), LINES[8])
        self.assertEqual(desk.run("undo"), LINES[8])
        self.assertEqual(desk.run("undo"), LINES[7])
        self.assertEqual([desk.run("redo") for _ in range(4)], list(LINES[7:]))
        self.raises(desk, "redo", NothingToUndo, deed="redo")

    def test_back(self):
        desk = laid()
        self.assertEqual(desk.run("back 11"), "")
        self.assertEqual(desk.run("mark"), "11")
        self.assertEqual(desk.run("back 4"), "")
        self.assertEqual(state(desk), state(replayed(LINES[:4])))
        self.raises(desk, "back 5", NothingToUndo, deed="back")
        self.raises(desk, "back " + "9" * 50, NothingToUndo, deed="back")
        self.assertEqual([desk.run("redo") for _ in range(3)], list(LINES[4:7]))
        self.assertEqual(desk.run("back 0"), "")
        self.assertEqual(state(desk), state(Desk()))
        self.assertEqual([desk.run("redo") for _ in range(11)], list(LINES))
        self.assertEqual(state(desk), state(laid()))


# For each form a line that can be run on the laid desk (the texts of let apart).
FORMS = (
    "let q forest a", "let q plot 1a", "let q script ()", "let q prices (0,0,0,())", "distance a b p", "loose a b p",
    "alike a b", "embedded b a", "agree t x m", "least t u", "script q t u", "apply q t x", "merge q t x m", "bare q t",
    "common q a b", "show a", "names", "drop a", "undo", "redo", "mark", "back 3",
)
NO_NAMES = ("A", "a1", "abcdefghi", "", "1", "-", "a-b", "\u00e9", "a\n", "\t", "0", "(a)", '"a"')
NO_COUNTS = ("00", "01", "-1", "+1", "", "a", "1.0", "1a", "\u0661", "1_0", "0x1", "1\n", "-0", "007")
# For each place of a form the sort that is asked, None where any value or none is.
SORTS = {
    "distance": (1, "forest", "forest", "prices"), "loose": (1, "forest", "forest", "prices"),
    "alike": (1, "forest", "forest"), "embedded": (1, "forest", "forest"), "agree": (1, "plot", "script", "script"),
    "least": (1, "plot", "plot"), "script": (2, "plot", "plot"), "apply": (2, "plot", "script"),
    "merge": (2, "plot", "script", "script"), "bare": (2, "plot"), "common": (2, "forest", "forest"),
}
OF_SORT = {"forest": ("a", "b", "e"), "plot": ("t", "u"), "script": ("x", "m", "n"), "prices": ("p",)}


class Commands(DeskTest):
    def test_each_form(self):
        for line in FORMS:
            desk = laid()
            desk.run("undo")
            self.assertIsInstance(desk.run(line), str)

    def test_no_form(self):
        desk = laid()
        for line in ("", " ", "  ", " names", "Names", "claims", "let\n", "lets a b c", "help", "(", "names,", "show\ta", "1",
                     "names\n", "\u00e9", "undo\u00a0", "distances a b p", " let a forest a", "forest"):
            self.invalid(desk, line, 0)
        for value in NOTHINGS:
            if not isinstance(value, str):
                self.raises(desk, value, InvalidCommand, line=value, at=0)

    def test_one_word_too_few(self):
        desk = laid()
        for line in FORMS:
            words = line.split(" ")
            for many in range(1, len(words)):
                self.invalid(desk, " ".join(words[:many]), many)

    def test_one_word_too_many(self):
        desk = laid()
        for line in FORMS:
            if line.startswith("let"):
                continue
            words = line.split(" ")
            for further in ("a", "", "A", "a b", " ", "1"):
                self.invalid(desk, line + " " + further, len(words))
            # A word that is wrong ahead of it is told first.
            for at in range(1, len(words)):
                self.invalid(desk, " ".join(words[:at] + ["A"] + words[at + 1:] + ["a"]), at)

    def test_words_of_wrong_kinds(self):
        desk = laid()
        for line in FORMS:
            words = line.split(" ")
            for at in range(1, min(len(words), 3) if words[0] == "let" else len(words)):
                sort = words[0] == "let" and at == 2
                wrong = NO_COUNTS if words[0] == "back" else NO_NAMES
                for word in wrong + (("any", "forests", "text", "Forest", "a") if sort else ()):
                    self.invalid(desk, " ".join(words[:at] + [word] + words[at + 1:]), at)
                    # Also where all words behind it are wrong or lacking.
                    self.invalid(desk, " ".join(words[:at] + [word]), at)
                    self.invalid(desk, " ".join(words[:at] + [word] + ["A"] * (len(words) - at - 1)), at)

    def test_blanks(self):
        desk = laid()
        for line, at in (
                ("show  a", 1), ("show a ", 2), ("show ", 1), ("names ", 1), ("let  a forest a", 1), ("let a  forest a", 2),
                ("let ", 1), ("let a ", 2), ("let a forest", 3), ("let", 1), ("alike a  b", 2), ("alike a ", 2), ("mark ", 1),
                ("undo ", 1), ("undo  ", 1), ("back  3", 1), ("back 3 ", 2), ("merge q t x", 4), ("merge q t x ", 4)):
            self.invalid(desk, line, at)

    def test_names_without_values(self):
        desk = laid()
        for kind, (start, *sorts) in SORTS.items():
            given = [kind] + ["q"] * (start - 1)
            right = [OF_SORT[sort][0] for sort in sorts]
            for k in range(len(sorts)):
                line = " ".join(given + right[:k] + ["none"] + right[k + 1:])
                self.raises(desk, line, UnknownName, name="none")
                # The first without a value, and ahead of values of a wrong sort.
                rest = ["other"] * (len(sorts) - k - 1)
                self.raises(desk, " ".join(given + right[:k] + ["none"] + rest), UnknownName, name="none")
                wrong = ["p" if sort != "prices" else "a" for sort in sorts]
                self.raises(desk, " ".join(given + wrong[:k] + ["none"] + wrong[k + 1:]), UnknownName, name="none")
                # A word of a wrong kind stands ahead of it, wherever it is.
                for at in range(1, len(given) + len(sorts)):
                    words = given + right[:k] + ["none"] + right[k + 1:]
                    words[at] = "A"
                    self.invalid(desk, " ".join(words), at)
                self.invalid(desk, line + " a", len(given) + len(sorts))
        for line in ("show none", "drop none"):
            self.raises(desk, line, UnknownName, name="none")

    def test_values_of_wrong_sorts(self):
        desk = laid()
        for kind, (start, *sorts) in SORTS.items():
            given = [kind] + ["q"] * (start - 1)
            for k, sort in enumerate(sorts):
                for other, names in OF_SORT.items():
                    if other != sort:
                        right = [OF_SORT[asked][0] for asked in sorts]
                        words = given + right[:k] + [names[0]] + right[k + 1:]
                        self.invalid(desk, " ".join(words), start + k)
                        # The first of several, and ahead of the errors of the functions.
                        behind = ["p" if asked != "prices" else "a" for asked in sorts[k + 1:]]
                        self.invalid(desk, " ".join(given + right[:k] + [names[0]] + behind), start + k)
        # Scripts that cannot be run, behind a plot that is none.
        self.invalid(desk, "apply q a z", 2)
        self.invalid(desk, "merge q t z a", 4)
        self.invalid(desk, "agree t z t", 3)

    def test_given_names_need_no_value(self):
        desk = laid()
        self.assertEqual(desk.run("bare new t"), "a(b,c)")
        self.assertEqual(desk.run("bare t t"), "a(b,c)")
        self.assertEqual(desk.run("let new plot 1a"), "1a")


class Replayed(DeskTest):
    def test_errors(self):
        for lines, error in ((LINES + ("drop q",), UnknownName), (["undo"], NothingToUndo), ((None,), InvalidCommand),
                             (["let a forest a", "let b forest ("], InvalidText), (["mark", "marks"], InvalidCommand)):
            with self.assertRaises(error):
                replayed(lines)

    def test_lines_of_all_kinds(self):
        desk = replayed(list(LINES) + ["undo", "names", "show a", "alike a b", "mark", "back 11", "undo", "redo"])
        self.assertEqual(desk.lines, LINES[:10] + ("alike a b",))
        self.assertEqual(state(desk), state(replayed(desk.lines)))

    def test_by_definition(self):
        # What is undone and done again, kept in lists of lines alone.
        rng = random.Random(321)
        lines = [line for line in FORMS + LINES if line.split(" ")[0] not in ("undo", "redo", "back")]
        lines += ["undo", "undo", "undo", "redo", "redo", "redo", "let q forest a(", "drop q", "merge t t x y", "names "]
        for _ in range(40):
            desk, done, undone = laid(), list(LINES), []
            for _ in range(40):
                line = rng.choice(lines + [f"back {len(done) - 2}"])
                kind = line.split(" ")[0]
                try:
                    answer = desk.run(line)
                except GraftError as error:
                    if kind in ("undo", "redo", "back"):
                        self.assertIs(type(error), NothingToUndo)
                        self.assertFalse({"undo": done, "redo": undone}[kind])
                    continue
                if kind == "undo":
                    undone.append(done.pop())
                    self.assertEqual(answer, undone[-1])
                elif kind == "redo":
                    done.append(undone.pop())
                    self.assertEqual(answer, done[-1])
                elif kind == "back":
                    while len(done) > int(line.split(" ")[1]):
                        undone.append(done.pop())
                elif kind not in ("show", "names", "mark"):
                    done.append(line)
                    undone = []
                self.assertEqual(desk.lines, tuple(done))
            self.assertEqual(whole(desk)[1], undone[::-1])
            again = replayed(desk.lines)
            self.assertEqual(state(again), state(desk))
            self.assertEqual(len(desk.claims), sum(
                line.split(" ")[0] in ("distance", "loose", "alike", "embedded", "agree", "least") for line in done))
            for claim, paper in desk.claims:
                self.assertIs(claim_holds(claim, paper), True)
