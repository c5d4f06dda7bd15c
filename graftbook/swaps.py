"""Swap papers: which neighbours to swap, one after another, to get from a history to another one."""

from graftbook.deeds import plot_behind
from graftbook.errors import Undefined
from graftbook.histories import EMPTY_PLOT, may_swap, need_histories, swapped, swaps_of
from graftbook.kinds import are_numbers
from graftbook.scripts import plots_by


def swaps_between(history, other):
    """Some swap paper of the least length from a history to another one."""
    need_histories(history, other)
    papers = _papers_from(tuple(history))
    if tuple(other) not in papers:
        raise Undefined("swaps")
    return papers[tuple(other)]


def _papers_from(first):
    """A dict of all tuples of deeds that swaps lead to, each with a swap paper of the least length."""
    papers = {first: ()}
    ahead = [first]
    while ahead:
        # Those with the shortest papers stand in front, so that no shorter one is found later.
        deeds = ahead.pop(0)
        for k in swaps_of(deeds):
            behind = swapped(deeds, k)
            if behind not in papers:
                papers[behind] = papers[deeds] + (k,)
                ahead.append(behind)
    return papers


def swaps_hold(history, other, paper):
    """Whether a value is a swap paper from a history to another one."""
    need_histories(history, other)
    if not isinstance(paper, tuple) or not are_numbers(paper):
        return False
    deeds = tuple(history)
    plots = plots_by(EMPTY_PLOT, deeds)
    for k in paper:
        if k + 1 >= len(deeds) or not may_swap(plots[k], deeds[k], deeds[k + 1]):
            return False
        deeds = swapped(deeds, k)
        # Both orders lead to the plot behind both, so that one plot alone changes.
        plots[k + 1] = plot_behind(plots[k], deeds[k])
    return deeds == tuple(other)
