"""Lots: several scripts from one plot that agree in every order."""

from itertools import combinations, permutations

from graftbook.errors import Undefined
from graftbook.plots import need_plot
from graftbook.scripts import need_scripts, plot_by


def _need_lot(t, scripts):
    need_plot(t)
    need_scripts(*scripts)


def _plot_of_all(t, scripts):
    """The plot behind all scripts, None unless it is there in every order."""
    plots = []
    for order in permutations(range(len(scripts))):
        plots.append(plot_by(t, [deed for k in order for deed in scripts[k]]))
    return plots[0] if plots.count(plots[0]) == len(plots) else None


def lots_agree(t, scripts):
    """Whether all scripts can be run in every order from a plot and always give one plot."""
    _need_lot(t, scripts)
    return _plot_of_all(t, scripts) is not None


def merged_all(t, scripts):
    """The plot behind scripts that agree in every order."""
    _need_lot(t, scripts)
    plot = _plot_of_all(t, scripts)
    if plot is None:
        raise Undefined("merge")
    return plot


def greatest_lot(t, scripts):
    """The numbers of the scripts of the greatest part that agrees, the first of those of one size."""
    _need_lot(t, scripts)
    size = len(scripts)
    lot = _first_lot(t, scripts, size)
    while lot is None:
        size -= 1
        lot = _first_lot(t, scripts, size)
    return lot


def _first_lot(t, scripts, size):
    """The first part of so many scripts that agrees, None if there is none; of no scripts it always does."""
    for lot in combinations(range(len(scripts)), size):
        if _plot_of_all(t, [scripts[k] for k in lot]) is not None:
            return lot
    return None
