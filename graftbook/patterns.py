"""Patterns: forests in which the words any and rest stand for trees and for rows of trees."""

from graftbook.errors import InvalidForest, Undefined
from graftbook.forests import is_forest, need_forests
from graftbook.nodes import node_trees, node_words

ANY = "any"
REST = "rest"


def is_pattern(value):
    """Whether a value is a pattern: both words have no children, and rest is last in its row."""
    return is_forest(value) and _is_pattern_row(value)


def _is_pattern_row(row):
    for k, (word, children) in enumerate(row):
        if word in (ANY, REST) and children != ():
            return False
        if word == REST and k < len(row) - 1:
            return False
        if not _is_pattern_row(children):
            return False
    return True


def _need_pattern(value):
    if not is_pattern(value):
        raise InvalidForest(value)


def fits(pattern, a):
    """Whether a forest as a whole fits a pattern."""
    _need_pattern(pattern)
    need_forests(a)
    return _taken(pattern, a) is not None


def taken(pattern, a):
    """The forests that the words any and rest stand for, in preorder of the pattern."""
    _need_pattern(pattern)
    need_forests(a)
    found = _taken(pattern, a)
    if found is None:
        raise Undefined("fit")
    return tuple(found)


def _taken(row, a):
    """A list of what both words in a row of a pattern stand for, None if a row of trees does not fit."""
    if not _lengths_fit(row, a):
        return None
    found = []
    for k, (word, children) in enumerate(row):
        if word == REST:
            found.append(a[k:])
        elif word == ANY:
            found.append((a[k],))
        else:
            below = _taken(children, a[k][1]) if a[k][0] == word else None
            if below is None:
                return None
            found.extend(below)
    return found


def _lengths_fit(row, a):
    """Whether a row of a pattern can go with so many trees."""
    if row and row[-1][0] == REST:
        return len(a) >= len(row) - 1
    return len(a) == len(row)


def filled(pattern, forests):
    """The pattern with forests in the places of the words any and rest."""
    _need_pattern(pattern)
    need_forests(*forests)
    places = [word for word in node_words(pattern) if word in (ANY, REST)]
    if len(places) != len(forests):
        raise Undefined("fill")
    for word, forest in zip(places, forests):
        if word == ANY and len(forest) != 1:
            raise Undefined("fill")
    return _filled(pattern, list(forests[::-1]))


def _filled(row, left):
    """A row of a pattern with forests in their places; takes these from the end of a list."""
    found = ()
    for word, children in row:
        if word in (ANY, REST):
            found += left.pop()
        else:
            found += ((word, _filled(children, left)),)
    return found


def found_at(pattern, a):
    """The numbers of the nodes whose trees fit a pattern of one tree."""
    _need_pattern(pattern)
    need_forests(a)
    return tuple([k for k, tree in enumerate(node_trees(a)) if _taken(pattern, (tree,)) is not None])
