"""Deeds: what is done to the spots of a plot, one by one."""

from graftbook.errors import InvalidScript, Refusal
from graftbook.kinds import are_numbers, is_word
from graftbook.plots import is_mark, need_plot
from graftbook.spots import placed_spots, row_marks, spot_with, with_spot, with_word, without_spot


def is_deed(value):
    """Whether a value has the form of a deed, on whatever plot."""
    if not isinstance(value, tuple) or len(value) < 2 or not is_mark(value[1]):
        return False
    parts = value[2:]
    if value[0] == "add":
        return len(parts) == 3 and is_word(parts[0]) and are_numbers(parts[1:])
    if value[0] == "move":
        return len(parts) == 2 and are_numbers(parts)
    if value[0] == "word":
        return len(parts) == 1 and is_word(parts[0])
    return value[0] == "drop" and len(parts) == 0


def need_deeds(deeds):
    """Raise InvalidScript with the first member of a sequence that is no deed."""
    for deed in deeds:
        if not is_deed(deed):
            raise InvalidScript(deed)


def refusal_of(t, deed):
    """The reason why a deed cannot be run, None if it can."""
    need_plot(t)
    need_deeds((deed,))
    return reason_against(t, deed)


def reason_against(t, deed):
    """As refusal_of, for what surely is a plot and a deed."""
    kind = deed[0]
    m = deed[1]
    spots = placed_spots(t)
    if (m in spots) == (kind == "add"):
        return "mark"
    if kind in ("add", "move"):
        return _place_reason(spots, m, deed[-2], deed[-1])
    if kind == "drop" and row_marks(t, m) != ():
        return "children"
    return None


def _place_reason(spots, m, parent, behind):
    """Why m cannot stand as a child of parent just behind another spot, or None."""
    if parent != 0 and parent not in spots:
        return "parent"
    if _is_at_or_below(spots, parent, m):
        return "inside"
    if behind == 0:
        return None
    if behind == m or behind not in spots or spots[behind][1] != parent:
        return "behind"
    return None


def _is_at_or_below(spots, mark, m):
    """Whether a mark, or 0 for what is above all roots, is m or stands below it."""
    while mark != 0 and mark != m:
        _, mark, _ = spots[mark]
    return mark == m


def run_deed(t, deed):
    """The plot behind a deed."""
    _need_runnable(t, deed)
    return plot_behind(t, deed)


def _need_runnable(t, deed):
    reason = refusal_of(t, deed)
    if reason is not None:
        raise Refusal(deed, reason)


def plot_behind(t, deed):
    """The plot behind a deed that surely can be run."""
    kind = deed[0]
    m = deed[1]
    if kind == "word":
        return with_word(t, m, deed[2])
    if kind == "drop":
        return without_spot(t, m)
    parent, behind = deed[-2:]
    if kind == "add":
        return with_spot(t, 0, parent, behind, (m, deed[2], ()))
    return with_spot(without_spot(t, m), 0, parent, behind, spot_with(t, m))


def back_deed(t, deed):
    """The deed that leads back from the plot behind a deed."""
    _need_runnable(t, deed)
    kind = deed[0]
    m = deed[1]
    if kind == "add":
        return ("drop", m)
    word, parent, behind = placed_spots(t)[m]
    if kind == "drop":
        return ("add", m, word, parent, behind)
    if kind == "move":
        return ("move", m, parent, behind)
    return ("word", m, word)
