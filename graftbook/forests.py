"""Forests: tuples of trees, each a pair of a word and a forest of children."""

from graftbook.errors import InvalidForest
from graftbook.kinds import is_tuple_of, is_word
from graftbook.nodes import in_postorder, node_depths, node_parents, node_words


def is_forest(value):
    """Whether a value is a forest."""
    rows = [value]
    while rows:
        row = rows.pop()
        if not isinstance(row, tuple):
            return False
        for tree in row:
            if not is_tuple_of(tree, 2) or not is_word(tree[0]):
                return False
            rows.append(tree[1])
    return True


def need_forests(*values):
    """Raise InvalidForest with the first of the values that is no forest."""
    for value in values:
        if not is_forest(value):
            raise InvalidForest(value)


def forest_size(a):
    """The number of nodes."""
    need_forests(a)
    return len(node_words(a))


def forest_depth(a):
    """The greatest number of nodes on a way down, 0 for the empty forest."""
    need_forests(a)
    return max(node_depths(a), default=0)


def forest_words(a):
    """The words in preorder."""
    need_forests(a)
    return node_words(a)


def words_behind(a):
    """The words in postorder."""
    need_forests(a)
    return in_postorder(a, node_words(a))


def forest_joined(a, b):
    """The trees of a, then those of b."""
    need_forests(a, b)
    return a + b


def forest_turned(a):
    """The trees in the opposite sequence, each with its children turned likewise."""
    need_forests(a)
    return _turned(a)


def _turned(a):
    return tuple([(word, _turned(children)) for word, children in reversed(a)])


def forest_below(a, b):
    """Whether a comes ahead of b: by size, then by words, then by parents."""
    need_forests(a, b)
    return forest_rank(a) < forest_rank(b)


def forest_rank(a):
    """What forest_below compares, for what surely is a forest."""
    words = node_words(a)
    return (len(words), words, node_parents(a))
