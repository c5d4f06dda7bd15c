"""Merges of what became of one plot, or one forest, by two hands."""

from graftbook.between import script_between
from graftbook.distances import first_matching
from graftbook.forests import need_forests
from graftbook.merges import agree, merged
from graftbook.nodes import node_words
from graftbook.plots import bare, marked
from graftbook.prices import need_prices


def merged_three(base, left, right):
    """The plot in which what led from the base to left and to right is merged."""
    return merged(base, script_between(base, left), script_between(base, right))


def three_agree(base, left, right):
    """Whether what led from the base to left and to right can be merged."""
    return agree(base, script_between(base, left), script_between(base, right))


def merged_forests(base, left, right, prices):
    """The forest in which two forests are merged, their nodes being known by their first matchings with the base."""
    need_forests(base, left, right)
    need_prices(prices)
    marks = tuple(range(1, len(node_words(base)) + 1))
    left_marks = _marks_of(base, left, prices, marks)
    right_marks = _marks_of(base, right, prices, marks + left_marks)
    return bare(merged_three(marked(base, marks), marked(left, left_marks), marked(right, right_marks)))


def _marks_of(base, other, prices, used):
    """The marks of a forest's nodes: those of the nodes of the base, and for the others the next free ones."""
    paired = {j: i + 1 for i, j in first_matching(base, other, prices)}
    free = max(used, default=0) + 1
    found = []
    for j in range(len(node_words(other))):
        if j in paired:
            found.append(paired[j])
        else:
            found.append(free)
            free += 1
    return tuple(found)
