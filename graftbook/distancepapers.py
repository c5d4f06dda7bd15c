"""Distance papers: what shows that no matching of two forests is cheaper."""

from graftbook.forests import need_forests
from graftbook.kinds import are_integers, is_integer, is_tuple_of
from graftbook.matchings import is_matching, matching_price
from graftbook.prices import need_prices
from graftbook.stretches import Stretches, least_prices, way_price


def distance_paper(a, b, prices):
    """A distance paper for the distance of two forests."""
    need_forests(a, b)
    need_prices(prices)
    table = least_prices(Stretches(a, b, prices))
    return tuple(sorted([at + (table[at],) for at in table]))


def distance_paper_holds(a, b, prices, n, paper):
    """Whether a paper is a distance paper for n."""
    need_forests(a, b)
    need_prices(prices)
    stretches = Stretches(a, b, prices)
    if not is_integer(n) or not _is_paper(paper, stretches):
        return False
    table = {line[:4]: line[4] for line in paper}
    if stretches.whole() not in table or table[stretches.whole()] != n:
        return False
    return all(_is_low_enough(stretches, table, at) for at in list(table))


def _is_paper(value, stretches):
    """Whether a value is a tuple of quintuples as papers have them, by their form alone."""
    if not isinstance(value, tuple):
        return False
    _, last, _, end = stretches.whole()
    for k, line in enumerate(value):
        if not is_tuple_of(line, 5) or not are_integers(line):
            return False
        if not _is_stretch(line[0], line[1], last) or not _is_stretch(line[2], line[3], end):
            return False
        # Ascending by these numbers, no two lines have them alike.
        if k > 0 and value[k - 1][:4] >= line[:4]:
            return False
    return True


def _is_stretch(low, high, last):
    return 0 <= low <= high + 1 <= last + 1


def _is_low_enough(stretches, table, at):
    """Whether all that a line rests on is there, and its number does not exceed any way's."""
    # A way whose first leaf is below low or start names what is no stretch; as all
    # in the table are stretches, it is not there.
    for parts, price in stretches.ways(at):
        if not all(part in table for part in parts):
            return False
        if table[at] > way_price(table, parts, price):
            return False
    return True


def distance_holds(a, b, prices, n, matching, paper):
    """Whether n is the price of the matching, and the paper shows that none is cheaper."""
    need_forests(a, b)
    need_prices(prices)
    if not is_matching(matching, a, b) or matching_price(a, b, prices, matching) != n:
        return False
    return distance_paper_holds(a, b, prices, n, paper)
