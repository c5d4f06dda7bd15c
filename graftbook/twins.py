"""Twins: equal trees of a forest, and forms in which each is written once."""

from graftbook.errors import Undefined
from graftbook.forests import need_forests
from graftbook.nodes import node_sizes, node_trees

MOST_NODES = 60


def classes_of(a):
    """For each node the number of its class: that of all nodes with equal trees."""
    need_forests(a)
    firsts = _unlike_trees(a)
    return tuple([firsts.index(tree) for tree in node_trees(a)])


def _unlike_trees(a):
    """The first tree of each class."""
    firsts = []
    for tree in node_trees(a):
        if tree not in firsts:
            firsts.append(tree)
    return firsts


def greatest_twins(a):
    """The first of the pairs of nodes whose trees are equal and of the greatest size, or None."""
    classes = classes_of(a)
    sizes = node_sizes(a)
    found = []
    for i in range(len(classes)):
        for k in range(i + 1, len(classes)):
            if classes[i] == classes[k]:
                found.append((-sizes[i], i, k))
    if not found:
        return None
    _, i, k = min(found)
    return (i, k)


def shared_form(a):
    """For each class in order its word and the classes of the children."""
    need_forests(a)
    firsts = _unlike_trees(a)
    return tuple([(word, tuple([firsts.index(child) for child in children])) for word, children in firsts])


def unshared(form, roots):
    """The forest of the classes of a form that these numbers of roots ask for."""
    if not _are_classes(form, roots):
        raise Undefined("form")
    sizes = _class_sizes(form)
    if len(sizes) < len(form) or sum([sizes[k] for k in roots]) > MOST_NODES:
        raise Undefined("form")
    return _row_of_classes(form, roots)


def _are_classes(form, roots):
    """Whether all numbers in a form and of its roots are classes'."""
    rows = [numbers for _, numbers in form] + [roots]
    return all(_are_below(numbers, len(form)) for numbers in rows)


def _are_below(numbers, size):
    return all(0 <= number < size for number in numbers)


def _class_sizes(form):
    """The number of nodes of the trees of each class, but of those that lead to themselves.

    What has too many nodes counts as one too many, so that no number grows without end.
    """
    sizes = {}
    known = -1
    while known < len(sizes):
        known = len(sizes)
        for k, (_, numbers) in enumerate(form):
            if k not in sizes and all(number in sizes for number in numbers):
                sizes[k] = min(MOST_NODES + 1, 1 + sum([sizes[number] for number in numbers]))
    return sizes


def _row_of_classes(form, numbers):
    """The trees of some classes, none of which leads to itself or has too many nodes."""
    return tuple([(form[k][0], _row_of_classes(form, form[k][1])) for k in numbers])
