"""Merges: what two scripts from one plot give together, and which of their deeds clash."""

from graftbook.deeds import need_deeds
from graftbook.errors import Clash
from graftbook.kinds import is_integer
from graftbook.plots import need_plot
from graftbook.scripts import need_runnable, need_scripts, plot_by, plots_by


def plot_of_both(t, p, q):
    """The plot behind two scripts, None unless it is there in both orders; checks nothing."""
    plot = plot_by(t, (*p, *q))
    return plot if plot == plot_by(t, (*q, *p)) else None


def are_free(t, d, e):
    """Whether two deeds can be run at a plot in both orders, and both give one plot."""
    need_plot(t)
    need_deeds((d, e))
    return plot_of_both(t, (d,), (e,)) is not None


def agree(t, p, q):
    """Whether two scripts can be run at a plot in both orders, and both give one plot."""
    need_plot(t)
    need_scripts(p, q)
    return plot_of_both(t, p, q) is not None


def merged(t, p, q):
    """The plot behind two scripts that agree; Clash if they do not."""
    clash = clash_of(t, p, q)
    if clash is not None:
        raise Clash(clash[0], clash[1])
    return plot_of_both(t, p, q)


def corners(t, p, q):
    """A row for each number i of deeds of p of the plots behind these and j deeds of q, or None."""
    need_runnable(t, p, q)
    rows = [plots_by(t, q)]
    for deed, first in zip(p, plots_by(t, p)[1:]):
        above = rows[-1]
        row = [first]
        for j, other in enumerate(q):
            near = (above[j], above[j + 1], row[j])
            row.append(None if None in near else plot_of_both(above[j], (deed,), (other,)))
        rows.append(row)
    return tuple([tuple(row) for row in rows])


def is_square(t, p, q):
    """Whether all corners of two scripts are there."""
    return all(None not in row for row in corners(t, p, q))


def clash_of(t, p, q):
    """The first deeds of two scripts that clash, None if the scripts agree."""
    need_runnable(t, p, q)
    if plot_of_both(t, p, q) is not None:
        return None
    rows = corners(t, p, q)
    missing = [(i + j, i, j) for i in range(len(p)) for j in range(len(q)) if rows[i + 1][j + 1] is None]
    # What the first of these rests on would come ahead of it if it were missing, so it is there.
    _, first, second = min(missing)
    return (p[first], q[second])


def far_apart(p, q):
    """Whether no mark stands in deeds of both scripts, and not both place roots or move."""
    need_scripts(p, q)
    theirs = _marks_in(q)
    if any(mark in theirs for mark in _marks_in(p)):
        return False
    return not (_places_roots(p) and _places_roots(q)) and not (_moves(p) and _moves(q))


def _marks_in(script):
    """The integers but 0 that stand in a script's deeds."""
    return [part for deed in script for part in deed if is_integer(part) and part != 0]


def _places_roots(script):
    return any(deed[0] in ("add", "move") and deed[-2] == 0 for deed in script)


def _moves(script):
    return any(deed[0] == "move" for deed in script)
