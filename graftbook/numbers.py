"""Numbers of nodes: those of preorder, and how they stand to one another."""

from graftbook.errors import InvalidNumber, Undefined
from graftbook.forests import need_forests
from graftbook.kinds import are_words, is_integer, is_number
from graftbook.nodes import covers, leaf_numbers, node_parents, node_posts, node_sizes


def parents_of(a):
    """For each node the number of its parent, -1 for roots."""
    need_forests(a)
    return node_parents(a)


def forest_of(words, parents):
    """The forest with these words and parents; Undefined("forest") if there is none."""
    if not _are_forest_rows(words, parents):
        raise Undefined("forest")
    # The row at 0 is that of the roots, the row at i + 1 that of node i's children.
    rows = [[] for _ in range(len(words) + 1)]
    for i in reversed(range(len(words))):
        tree = (words[i], tuple(reversed(rows[i + 1])))
        rows[parents[i] + 1].append(tree)
    return tuple(reversed(rows[0]))


def _are_forest_rows(words, parents):
    if not isinstance(words, (list, tuple)) or not isinstance(parents, (list, tuple)):
        return False
    return len(words) == len(parents) and are_words(words) and _are_parents(parents)


def _are_parents(parents):
    """Whether each parent is -1 or on the way down to the node just ahead."""
    way = [-1]
    for i, parent in enumerate(parents):
        if not is_integer(parent):
            return False
        while way and way[-1] != parent:
            way.pop()
        if not way:
            return False
        way.append(i)
    return True


def sizes_of(a):
    """For each node the number of nodes in its tree."""
    need_forests(a)
    return node_sizes(a)


def post_numbers(a):
    """For each node its number by postorder."""
    need_forests(a)
    return node_posts(a)


def first_leaves(a):
    """For each node, in postorder, the least postorder number in its tree."""
    need_forests(a)
    return leaf_numbers(a)


def is_over(a, i, k):
    """Whether node i is a strict ancestor of node k."""
    need_forests(a)
    sizes = node_sizes(a)
    need_node(i, len(sizes))
    need_node(k, len(sizes))
    return covers(sizes, i, k)


def need_node(i, size):
    """Raise InvalidNumber unless i is the number of one of so many nodes."""
    if not is_number(i) or i >= size:
        raise InvalidNumber(i)
