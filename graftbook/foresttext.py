"""Texts of forests, such as a(b,c(d))."""

from graftbook.errors import InvalidText
from graftbook.forests import need_forests
from graftbook.kinds import LETTERS, LONGEST_WORD

MOST_OPEN = 8


def forest_text(a):
    """The text of a forest."""
    need_forests(a)
    return _row_text(a)


def _row_text(row):
    return ",".join([_tree_text(word, children) for word, children in row])


def _tree_text(word, children):
    if children == ():
        return word
    return word + "(" + _row_text(children) + ")"


def read_forest(text):
    """The forest whose text this is; InvalidText if there is none."""
    if not isinstance(text, str):
        raise InvalidText(text, 0)
    at = _first_wrong(text)
    if at is not None:
        raise InvalidText(text, at)
    return forest_told(text)


def _first_wrong(text):
    """Where no text of a forest goes on like this, its length if it ends too early, or None."""
    opened = 0
    letters = 0
    last = ""
    for at, sign in enumerate(text):
        if sign not in _signs_behind(last, letters, opened):
            return at
        if sign == "(":
            opened += 1
        elif sign == ")":
            opened -= 1
        letters = letters + 1 if sign in LETTERS else 0
        last = sign
    if opened > 0 or last == ",":
        return len(text)
    return None


def _signs_behind(last, letters, opened):
    """The signs with which a text may go on behind its last sign."""
    if letters == 0 and last != ")":
        return LETTERS
    signs = ","
    if opened > 0:
        signs += ")"
    if letters > 0 and opened < MOST_OPEN:
        signs += "("
    if 0 < letters < LONGEST_WORD:
        signs += LETTERS
    return signs


def forest_told(text):
    """The forest of a text in which nothing is wrong."""
    rows = [[]]
    above = []
    word = ""
    # A comma behind the text ends its last word as it does every other one.
    for sign in text + ",":
        if sign in LETTERS:
            word += sign
            continue
        if sign == "(":
            above.append(word)
            rows.append([])
        elif word != "":
            rows[-1].append((word, ()))
        if sign == ")":
            row = rows.pop()
            rows[-1].append((above.pop(), tuple(row)))
        word = ""
    return tuple(rows[0])
