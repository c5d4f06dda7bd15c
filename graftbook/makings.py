"""What the commands of the desk make of values: other values, claims, and their texts."""

from graftbook.between import script_between
from graftbook.claims import right_claim, seal_claim
from graftbook.embeddings import common_forest
from graftbook.errors import InvalidScript, Undefined
from graftbook.foresttext import forest_text, read_forest
from graftbook.merges import merged
from graftbook.plots import bare
from graftbook.plottext import plot_text, read_plot
from graftbook.prices import need_prices
from graftbook.scripts import is_script, run
from graftbook.told import told, untold

NUMBERED = ("distance", "loose", "least")
CLAIMING = ("distance", "loose", "least", "alike", "embedded", "agree")


def value_text(sort, value):
    """The text of a value of a sort."""
    if sort == "forest":
        return forest_text(value)
    if sort == "plot":
        return plot_text(value)
    return told(value)


def value_read(sort, text):
    """The value of a sort whose text this is."""
    if sort == "forest":
        return read_forest(text)
    if sort == "plot":
        return read_plot(text)
    value = untold(text)
    if sort == "prices":
        need_prices(value)
    elif not is_script(value):
        raise InvalidScript(value)
    return value


def value_made(words, values):
    """The sort of the value that a command gives to a name, and the value."""
    kind = words[0]
    if kind == "let":
        return (words[2], value_read(words[2], words[3]))
    if kind == "script":
        return ("script", script_between(*values))
    if kind == "apply":
        return ("plot", run(*values))
    if kind == "merge":
        return ("plot", merged(*values))
    if kind == "bare":
        return ("forest", bare(*values))
    return ("forest", common_forest(*values))


def claim_made(kind, values):
    """The true claim that a command makes of values, and a paper with which it holds."""
    # Any number will do: the right one is put in its place.
    further = (0,) if kind in NUMBERED else ()
    claim = right_claim((kind, *values, *further))
    if claim is None:
        raise Undefined("claim")
    return (claim, seal_claim(claim))
