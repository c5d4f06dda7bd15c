"""What leads from one plot to another one with the fewest deeds."""

from graftbook.plots import need_plot
from graftbook.rows import common_row
from graftbook.spots import placed_spots, row_marks


def script_between(t, u):
    """A script of the fewest deeds that leads from t to u: words, then places, then drops."""
    _need_both(t, u)
    spots = placed_spots(t)
    others = placed_spots(u)
    return tuple(_words(spots, others) + _placings(spots, others, _kept(t, u)) + _drops(spots, others))


def _need_both(t, u):
    need_plot(t)
    need_plot(u)


def _words(spots, others):
    both = [m for m in others if m in spots]
    return [("word", m, others[m][0]) for m in both if others[m][0] != spots[m][0]]


def _placings(spots, others, kept):
    # Whatever stands above a spot of u, or to its left, is there in its place ahead
    # of it, so that parent and behind are those of u at once.
    found = []
    for m, (word, parent, behind) in others.items():
        if m not in spots:
            found.append(("add", m, word, parent, behind))
        elif m not in kept:
            found.append(("move", m, parent, behind))
    return found


def _drops(spots, others):
    # What stands below a spot comes behind it in preorder, so it is dropped ahead of it.
    return [("drop", m) for m in reversed(list(spots)) if m not in others]


def _kept(t, u):
    """The marks that stay where they are."""
    others = placed_spots(u)
    kept = []
    for parent in [0] + [m for m in placed_spots(t) if m in others]:
        row = row_marks(t, parent)
        # Marks are as good as words here: all that is asked is which are equal.
        kept.extend([row[i] for i, _ in common_row(row, row_marks(u, parent))])
    return kept


def plot_distance(t, u):
    """The number of deeds that it takes from t to u."""
    return len(script_between(t, u))


def kept_marks(t, u):
    """The marks that stay where they are, ascending."""
    _need_both(t, u)
    return tuple(sorted(_kept(t, u)))
