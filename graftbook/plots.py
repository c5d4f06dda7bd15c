"""Plots: forests whose nodes have marks of their own."""

from graftbook.errors import InvalidPlot, Undefined
from graftbook.forests import need_forests
from graftbook.kinds import are_integers, is_integer, is_tuple_of, is_word
from graftbook.nodes import node_words
from graftbook.spots import placed_spots, row_marks


def is_mark(value):
    """Whether a value is an integer above 0."""
    return is_integer(value) and value > 0


def is_plot(value):
    """Whether a value is a plot."""
    seen = set()
    rows = [value]
    while rows:
        row = rows.pop()
        if not isinstance(row, tuple):
            return False
        for spot in row:
            if not _is_spot(spot) or spot[0] in seen:
                return False
            seen.add(spot[0])
            rows.append(spot[2])
    return True


def _is_spot(value):
    """Whether a value is a triple of a mark, a word and whatever."""
    return is_tuple_of(value, 3) and is_mark(value[0]) and is_word(value[1])


def need_plot(value):
    """Raise InvalidPlot if a value is no plot."""
    if not is_plot(value):
        raise InvalidPlot(value)


def marks_of(t):
    """The marks in preorder."""
    need_plot(t)
    return tuple(placed_spots(t))


def bare(t):
    """The forest of the words."""
    need_plot(t)
    return _bare(t)


def _bare(row):
    return tuple([(word, _bare(children)) for _, word, children in row])


def spot_at(t, m):
    """The word of the spot with a mark, its parent's mark and that of the spot to its left."""
    need_plot(t)
    _need_mark(t, m)
    return placed_spots(t)[m]


def row_of(t, m):
    """The marks of the children of a spot in order, of the roots for 0."""
    need_plot(t)
    if m != 0:
        _need_mark(t, m)
    return row_marks(t, m)


def _need_mark(t, m):
    if not is_integer(m) or m not in placed_spots(t):
        raise Undefined("mark")


def marked(a, marks):
    """The plot of a forest with these marks in preorder."""
    need_forests(a)
    if not _are_marks(marks) or len(marks) != len(node_words(a)):
        raise Undefined("marks")
    return _marked(a, list(marks[::-1]))


def _are_marks(value):
    """Whether a value is a sequence of unlike marks."""
    if not isinstance(value, (list, tuple)) or not are_integers(value):
        return False
    return all(mark > 0 for mark in value) and len(set(value)) == len(value)


def _marked(row, left):
    """The spots of a row of trees; takes their marks from the end of a list."""
    found = []
    for word, children in row:
        mark = left.pop()
        found.append((mark, word, _marked(children, left)))
    return tuple(found)
