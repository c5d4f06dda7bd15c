"""Forests that are alike but for the order of their trees, and pairings of their nodes."""

from graftbook.errors import Undefined
from graftbook.forests import forest_rank, need_forests
from graftbook.kinds import are_numbers, is_tuple_of
from graftbook.nodes import node_parents, node_words


def sorted_form(a):
    """The forest alike without order to a in which the trees of each row ascend by forest_below."""
    need_forests(a)
    return tuple([tree for tree, _ in _sorted_trees(a, 0)])


def _sorted_trees(row, start):
    """The trees of a row, sorted everywhere, each with the old numbers of its nodes in preorder."""
    found = []
    for word, children in row:
        below = _sorted_trees(children, start + 1)
        numbers = [start]
        for _, further in below:
            numbers.extend(further)
        found.append(((word, tuple([tree for tree, _ in below])), numbers))
        start += len(numbers)
    return sorted(found, key=_tree_rank)


def _tree_rank(found):
    tree, _ = found
    return forest_rank((tree,))


def alike(a, b):
    """Whether two forests are alike without order."""
    need_forests(a, b)
    return sorted_form(a) == sorted_form(b)


def pairing_of(a, b):
    """Some pairing of two forests."""
    if not alike(a, b):
        raise Undefined("pairing")
    paired = {}
    for i, j in zip(_sorted_numbers(a), _sorted_numbers(b)):
        paired[i] = j
    return tuple([paired[i] for i in range(len(paired))])


def _sorted_numbers(a):
    """The old numbers of the nodes in the preorder of the sorted form."""
    found = []
    for _, numbers in _sorted_trees(a, 0):
        found.extend(numbers)
    return found


def pairing_holds(a, b, pairing):
    """Whether a value is a pairing of two forests."""
    need_forests(a, b)
    words = node_words(a)
    others = node_words(b)
    if not is_tuple_of(pairing, len(words)) or not are_numbers(pairing):
        return False
    if sorted(pairing) != list(range(len(others))):
        return False
    parents = node_parents(a)
    other_parents = node_parents(b)
    for i, j in enumerate(pairing):
        above = pairing[parents[i]] if parents[i] >= 0 else -1
        if words[i] != others[j] or other_parents[j] != above:
            return False
    return True


def ways_alike(a):
    """The number of pairings of a forest with itself."""
    return _row_ways(sorted_form(a))


def _row_ways(row):
    """The number of pairings with itself of a row in which trees that are alike are equal."""
    ways = 1
    for k, tree in enumerate(row):
        # Equal trees can change places: m of them in 1 * 2 * .. * m ways.
        equal = row[:k].count(tree) + 1
        ways *= equal * _row_ways(tree[1])
    return ways
