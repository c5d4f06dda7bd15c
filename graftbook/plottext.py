"""Texts of plots, such as 1a(2b,3c)."""

from graftbook.errors import InvalidText
from graftbook.foresttext import forest_told
from graftbook.kinds import FIGURES, LETTERS, LONGEST_WORD
from graftbook.plots import marked, need_plot

LONGEST_MARK = 9
MOST_OPEN = 12


def plot_text(t):
    """The text of a plot."""
    need_plot(t)
    return _row_text(t)


def _row_text(row):
    return ",".join([_spot_text(mark, word, children) for mark, word, children in row])


def _spot_text(mark, word, children):
    name = str(mark) + word
    if children == ():
        return name
    return name + "(" + _row_text(children) + ")"


def read_plot(text):
    """The plot whose text this is; InvalidText if there is none."""
    if not isinstance(text, str):
        raise InvalidText(text, 0)
    at = _first_wrong(text)
    if at is not None:
        raise InvalidText(text, at)
    return marked(_forest_of(text), _marks_in(text))


def _first_wrong(text):
    """Where no text of a plot goes on like this, its length if it ends too early, or None."""
    seen = set()
    opened = 0
    # The figures and letters just ahead, as far as they belong to one mark or word.
    mark = ""
    word = ""
    last = ""
    for at, sign in enumerate(text):
        again = mark in seen
        if sign not in _signs_behind(mark, again, word, last, opened):
            return at
        if sign in LETTERS and mark != "":
            seen.add(mark)
        if sign == "(":
            opened += 1
        elif sign == ")":
            opened -= 1
        mark = mark + sign if sign in FIGURES else ""
        word = word + sign if sign in LETTERS else ""
        last = sign
    if opened > 0 or last == "," or mark != "":
        return len(text)
    return None


def _signs_behind(mark, again, word, last, opened):
    """The signs with which a text may go on; again tells whether the mark just ahead came earlier."""
    if mark != "":
        signs = "" if again else LETTERS
        return signs + FIGURES if len(mark) < LONGEST_MARK else signs
    if word == "" and last != ")":
        return FIGURES[1:]
    signs = ","
    if opened > 0:
        signs += ")"
    if word != "" and opened < MOST_OPEN:
        signs += "("
    if 0 < len(word) < LONGEST_WORD:
        signs += LETTERS
    return signs


def _forest_of(text):
    """The forest of a text of a plot, its marks left out."""
    return forest_told("".join([sign for sign in text if sign not in FIGURES]))


def _marks_in(text):
    """The marks of a text of a plot, in the sequence of the text, which is preorder."""
    parted = [sign if sign in FIGURES else " " for sign in text]
    return [int(figures) for figures in "".join(parted).split()]
