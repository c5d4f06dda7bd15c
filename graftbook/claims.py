"""Claims: what can be said of forests, tables, plots and scripts, and the papers that show that it is true."""

from graftbook.between import plot_distance, script_between
from graftbook.choices import best_choice, choice_holds, choice_paper, choice_sum, is_table
from graftbook.distancepapers import distance_holds, distance_paper
from graftbook.distances import forest_distance, least_matching
from graftbook.embeddings import embedding_holds, embedding_of
from graftbook.errors import InvalidClaim, Refused
from graftbook.forests import is_forest
from graftbook.histories import EMPTY_PLOT, same_deeds
from graftbook.kinds import are_words, is_integer, is_tuple_of
from graftbook.likeness import alike, pairing_holds, pairing_of
from graftbook.loose import loose_distance, loose_holds, loose_pairs, loose_paper
from graftbook.merges import agree
from graftbook.plots import is_plot
from graftbook.prices import is_prices
from graftbook.rowpapers import row_paper, row_paper_holds
from graftbook.rows import first_row_matching, is_row_matching, row_distance, row_price
from graftbook.scripts import is_script, plot_by
from graftbook.swaps import swaps_between, swaps_hold

# For each kind what its parts are.
FORMS = {
    "row": ("row", "row", "prices", "number"),
    "distance": ("forest", "forest", "prices", "number"),
    "choice": ("table", "number"),
    "alike": ("forest", "forest"),
    "unlike": ("forest", "forest"),
    "loose": ("forest", "forest", "prices", "number"),
    "embedded": ("forest", "forest"),
    "leads": ("plot", "script", "plot"),
    "agree": ("plot", "script", "script"),
    "clash": ("plot", "script", "script"),
    "same": ("script", "script"),
    "least": ("plot", "plot", "number"),
}


def is_claim(value):
    """Whether a value has the form of a claim, true or not."""
    if not isinstance(value, tuple) or len(value) == 0:
        return False
    if not isinstance(value[0], str) or value[0] not in FORMS:
        return False
    form = FORMS[value[0]]
    parts = value[1:]
    return len(parts) == len(form) and all(_is_part(sort, part) for sort, part in zip(form, parts))


def _is_part(sort, value):
    if sort == "row":
        return isinstance(value, tuple) and are_words(value)
    if sort == "forest":
        return is_forest(value)
    if sort == "prices":
        return is_prices(value)
    if sort == "table":
        return is_table(value)
    if sort == "plot":
        return is_plot(value)
    if sort == "script":
        return is_script(value)
    return is_integer(value)


def _need_claim(value):
    if not is_claim(value):
        raise InvalidClaim(value)


def right_claim(claim):
    """The claim with the right number, or of the kind that is true of its parts; None if there is none."""
    _need_claim(claim)
    parts = claim[1:]
    if FORMS[claim[0]][-1] == "number":
        return claim[:-1] + (_right_number(claim[0], parts[:-1]),)
    kind = _right_kind(claim[0], parts)
    return None if kind is None else (kind,) + parts


def _right_number(kind, parts):
    """The number with which a claim about some parts is true."""
    if kind == "row":
        return row_distance(*parts)
    if kind == "distance":
        return forest_distance(*parts)
    if kind == "loose":
        return loose_distance(*parts)
    if kind == "least":
        return plot_distance(*parts)
    table = parts[0]
    return choice_sum(table, best_choice(table))


def _right_kind(kind, parts):
    """A kind with which a claim about some parts is true: the same, or its opposite if it has one, or None."""
    if kind in ("alike", "unlike"):
        return "alike" if alike(*parts) else "unlike"
    if kind in ("agree", "clash"):
        return _right_end(*parts)
    if kind == "embedded":
        is_true = embedding_of(*parts) is not None
    elif kind == "leads":
        t, script, u = parts
        is_true = plot_by(t, script) == u
    else:
        is_true = _are_same(*parts)
    return kind if is_true else None


def _right_end(t, p, q):
    """Whether two scripts agree or clash, None if one of them cannot be run."""
    if plot_by(t, p) is None or plot_by(t, q) is None:
        return None
    return "agree" if agree(t, p, q) else "clash"


def _are_same(history, other):
    """Whether both scripts are histories and one comes from the other by swaps."""
    return _are_histories(history, other) and same_deeds(history, other)


def _are_histories(*scripts):
    return all(plot_by(EMPTY_PLOT, script) is not None for script in scripts)


def _is_true(claim):
    return right_claim(claim) == claim


def claim_holds(claim, paper):
    """Whether a claim is one, and a paper shows that it is true."""
    if not is_claim(claim):
        return False
    parts = claim[1:]
    kind = claim[0]
    if kind in ("row", "distance", "choice", "loose"):
        return is_tuple_of(paper, 2) and _pair_holds(kind, parts, paper)
    if kind == "alike":
        return pairing_holds(*parts, paper)
    if kind == "embedded":
        return embedding_holds(*parts, paper)
    if kind == "same":
        return _are_histories(*parts) and swaps_hold(*parts, paper)
    if kind == "least":
        return _is_true(claim) and _leads_in(*parts, paper)
    return paper == () and _is_true(claim)


def _pair_holds(kind, parts, paper):
    """Whether a pair of something with a number and a paper for it shows that there is nothing less."""
    found, bounds = paper
    if kind == "distance":
        return distance_holds(*parts, found, bounds)
    if kind == "loose":
        return loose_holds(*parts, found, bounds)
    if kind == "row":
        return _row_holds(*parts, found, bounds)
    table, n = parts
    return choice_holds(table, found, bounds) and choice_sum(table, found) == n


def _row_holds(a, b, prices, n, matching, paper):
    """Whether n is the price of a row matching, and a paper shows that none is cheaper."""
    if not is_row_matching(matching, a, b) or row_price(a, b, prices, matching) != n:
        return False
    return row_paper_holds(a, b, prices, n, paper)


def _leads_in(t, u, n, script):
    """Whether a value is a script of n deeds that leads from t to u."""
    return is_script(script) and len(script) == n and plot_by(t, script) == u


def seal_claim(claim):
    """Some paper with which a claim holds; Refused if it is not true."""
    _need_claim(claim)
    if not _is_true(claim):
        raise Refused(claim)
    return _paper_for(claim[0], claim[1:])


def _paper_for(kind, parts):
    """A paper for what is true."""
    if kind == "alike":
        return pairing_of(*parts)
    if kind == "embedded":
        return embedding_of(*parts)
    if kind == "same":
        return swaps_between(*parts)
    if FORMS[kind][-1] != "number":
        return ()
    asked = parts[:-1]
    if kind == "row":
        return (first_row_matching(*asked), row_paper(*asked))
    if kind == "distance":
        return (least_matching(*asked), distance_paper(*asked))
    if kind == "loose":
        return (loose_pairs(*asked), loose_paper(*asked))
    if kind == "least":
        return script_between(*asked)
    return (best_choice(*asked), choice_paper(*asked))
