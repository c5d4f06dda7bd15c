"""Traces: what place scripts make of each node, and the scripts that matchings ask for."""

from graftbook.distances import first_matching
from graftbook.forests import need_forests
from graftbook.matchings import need_matching
from graftbook.nodes import nearest_kept, node_parents, node_paths, node_words
from graftbook.steps import run_steps, step_on


def trace_of(a, steps):
    """The matching that pairs each node of a that was never dropped with what it has become."""
    need_forests(a)
    forest = a
    # For each node of the forest on the way its number in a, -1 if it was added. A
    # step leaves all other nodes in their sequence.
    numbers = list(range(len(node_words(a))))
    for step in steps:
        behind = step_on(forest, step)
        if step[0] == "drop":
            del numbers[node_paths(forest).index(step[1])]
        elif step[0] == "add":
            numbers.insert(node_paths(behind).index(step[1]), -1)
        forest = behind
    return tuple([(number, k) for k, number in enumerate(numbers) if number >= 0])


def steps_of(a, b, matching):
    """The place script from a to b that keeps the pairs of a matching and no other nodes."""
    need_forests(a, b)
    need_matching(matching, a, b)
    return tuple(_changes(a, b, matching) + _drops(a, matching) + _adds(b, matching))


def _changes(a, b, matching):
    words = node_words(a)
    others = node_words(b)
    paths = node_paths(a)
    return [("change", paths[i], others[j]) for i, j in matching if words[i] != others[j]]


def _drops(a, matching):
    # What is dropped ahead of a node has a greater number, so it stands below it or
    # to its right, and the node is still at its path in a.
    paired = [i for i, _ in matching]
    paths = node_paths(a)
    return [("drop", paths[i]) for i in reversed(range(len(paths))) if i not in paired]


def _adds(b, matching):
    # All that is above a node of b, or to its left, is there when it is added, so it
    # stands at its path in b at once.
    paired = [j for _, j in matching]
    words = node_words(b)
    paths = node_paths(b)
    lacking = [j for j in range(len(words)) if j not in paired]
    return [("add", paths[j], _count_taken(b, paired, j), words[j]) for j in lacking]


def _count_taken(b, paired, j):
    """How many trees node j gets as its children when it is added."""
    parents = node_parents(b)
    there = list(range(j + 1)) + paired
    return len([k for k in paired if nearest_kept(parents, there, k) == j])


def least_steps(a, b, prices):
    """The place script for the first matching with the least price."""
    return steps_of(a, b, first_matching(a, b, prices))


def steps_shortened(a, steps):
    """A place script that leads where the steps do and keeps the same nodes."""
    return steps_of(a, run_steps(a, steps), trace_of(a, steps))
