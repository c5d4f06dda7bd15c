"""Texts of values that are made of tuples, integers and words, such as ("drop",1)."""

from graftbook.errors import InvalidText
from graftbook.kinds import FIGURES, LETTERS, LONGEST_WORD

MOST_FIGURES = 9
MOST_OPEN = 60
MARK = '"'


def told(value):
    """The text of a value."""
    if isinstance(value, str):
        return MARK + value + MARK
    if not isinstance(value, tuple):
        return str(value)
    parts = [told(part) for part in value]
    if len(parts) == 1:
        return "(" + parts[0] + ",)"
    return "(" + ",".join(parts) + ")"


def untold(text):
    """The value whose text this is; InvalidText if there is none."""
    if not isinstance(text, str):
        raise InvalidText(text, 0)
    value, end = _value_at(text, 0, 0)
    if end < len(text):
        raise InvalidText(text, end)
    return value


# Each of these functions reads what begins at a place of the text and tells where it ends.
# What is read so far can always go on to a text of a value, so that the first sign that
# does not fit, or the end of the text, is where it goes wrong.


def _stands_at(text, at, signs):
    """Whether one of some signs stands at a place of a text."""
    return at < len(text) and text[at] in signs


def _need_one_of(text, at, signs):
    """Raise InvalidText unless one of some signs stands at a place of a text."""
    if not _stands_at(text, at, signs):
        raise InvalidText(text, at)


def _value_at(text, at, opened):
    """The value that begins at a place within so many tuples, and where it ends."""
    if _stands_at(text, at, MARK):
        return _word_at(text, at)
    if _stands_at(text, at, "-" + FIGURES):
        return _integer_at(text, at)
    _need_one_of(text, at, "(" if opened < MOST_OPEN else "")
    return _tuple_at(text, at, opened + 1)


def _end_of(text, at, signs, most):
    """Where a row of some signs ends, or where so many of them are passed."""
    end = at
    while end < at + most and _stands_at(text, end, signs):
        end += 1
    return end


def _word_at(text, at):
    start = at + 1
    _need_one_of(text, start, LETTERS)
    end = _end_of(text, start, LETTERS, LONGEST_WORD)
    _need_one_of(text, end, MARK)
    return (text[start:end], end + 1)


def _integer_at(text, at):
    if _stands_at(text, at, "0"):
        return (0, at + 1)
    start = at + 1 if _stands_at(text, at, "-") else at
    _need_one_of(text, start, FIGURES[1:])
    end = _end_of(text, start, FIGURES, MOST_FIGURES)
    return (int(text[at:end]), end)


def _tuple_at(text, at, opened):
    parts = []
    at += 1
    # A tuple may end right behind "(" and behind the comma of a single part; with
    # more parts it ends behind the last one.
    while len(parts) > 1 or not _stands_at(text, at, ")"):
        part, at = _value_at(text, at, opened)
        parts.append(part)
        if len(parts) > 1 and _stands_at(text, at, ")"):
            break
        _need_one_of(text, at, ",")
        at += 1
    return (tuple(parts), at + 1)
