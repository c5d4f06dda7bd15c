"""Matchings of forests: which node becomes which, order and ancestors kept."""

from graftbook.errors import InvalidMatching
from graftbook.forests import need_forests
from graftbook.nodes import covers, node_sizes, node_words
from graftbook.pairs import are_rising_pairs, pairs_price
from graftbook.prices import need_prices


def is_matching(value, a, b):
    """Whether a value is a matching of two forests."""
    need_forests(a, b)
    sizes = node_sizes(a)
    others = node_sizes(b)
    if not are_rising_pairs(value, len(sizes), len(others)):
        return False
    return all(goes_with(value[:k], value[k], sizes, others) for k in range(len(value)))


def goes_with(pairs, pair, sizes, others):
    """Whether a pair may stand in a matching behind other ones."""
    k, m = pair
    for i, j in pairs:
        if m <= j or covers(sizes, i, k) != covers(others, j, m):
            return False
    return True


def need_matching(value, a, b):
    """Raise InvalidMatching if a value is no matching of two forests."""
    if not is_matching(value, a, b):
        raise InvalidMatching(value)


def matching_price(a, b, prices, matching):
    """The price of a matching."""
    need_forests(a, b)
    need_prices(prices)
    need_matching(matching, a, b)
    return pairs_price(node_words(a), node_words(b), prices, matching)


def all_matchings(a, b):
    """All matchings, ascending."""
    need_forests(a, b)
    found = []
    _add_matchings(found, (), node_sizes(a), node_sizes(b))
    return tuple(found)


def _add_matchings(found, pairs, sizes, others):
    """Append a matching and all that begin with it, ascending."""
    found.append(pairs)
    start = pairs[-1][0] + 1 if pairs else 0
    for k in range(start, len(sizes)):
        for m in range(len(others)):
            if goes_with(pairs, (k, m), sizes, others):
                _add_matchings(found, pairs + ((k, m),), sizes, others)


def matching_turned(matching):
    """The pairs turned, ascending."""
    return tuple(sorted([(j, i) for i, j in matching]))


def matching_joined(matching, other):
    """The pairs (i, l) for which (i, j) is in the one and (j, l) in the other, ascending."""
    further = dict(other)
    return tuple(sorted([(i, further[j]) for i, j in matching if j in further]))
