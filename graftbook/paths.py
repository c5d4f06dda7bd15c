"""Paths: the number of a root, then of one of its children, and so on."""

from graftbook.errors import InvalidPath
from graftbook.forests import need_forests
from graftbook.kinds import are_numbers
from graftbook.nodes import node_paths
from graftbook.numbers import need_node


def path_of(a, i):
    """The path of node i."""
    need_forests(a)
    paths = node_paths(a)
    need_node(i, len(paths))
    return paths[i]


def node_at(a, path):
    """The number of the node at a path."""
    need_forests(a)
    _need_path(a, path)
    return node_paths(a).index(path)


def tree_at(a, path):
    """The tree at a path."""
    need_forests(a)
    _need_path(a, path)
    return row_below(a, path[:-1])[path[-1]]


def word_at(a, path):
    """The word at a path."""
    return tree_at(a, path)[0]


def replaced(a, path, b):
    """The forest a with the trees of b in place of the tree at the path."""
    need_forests(a, b)
    _need_path(a, path)
    return spliced(a, path, 1, b)


def is_path(value):
    """Whether a value is a path, of whatever forest."""
    return isinstance(value, tuple) and len(value) > 0 and are_numbers(value)


def leads_to_node(a, path):
    """Whether a path is that of a node."""
    return path in node_paths(a)


def _need_path(a, path):
    if not is_path(path) or not leads_to_node(a, path):
        raise InvalidPath(path)


def row_below(a, path):
    """The children of the node at a path, the roots for (); the node must be there."""
    row = a
    for place in path:
        _, row = row[place]
    return row


def spliced(a, path, count, row):
    """The forest with a row in place of the count trees at the path and behind it."""
    place = path[0]
    if len(path) == 1:
        return a[:place] + row + a[place + count:]
    word, children = a[place]
    tree = (word, spliced(children, path[1:], count, row))
    return a[:place] + (tree,) + a[place + 1:]
