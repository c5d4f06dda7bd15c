"""Distances of forests, and the matchings that have the least price."""

from graftbook.forests import need_forests
from graftbook.matchings import all_matchings
from graftbook.nodes import node_posts, node_words
from graftbook.pairs import pairs_price
from graftbook.prices import need_prices
from graftbook.stretches import Stretches, least_prices, way_price


def forest_distance(a, b, prices):
    """The least price of a matching."""
    need_forests(a, b)
    need_prices(prices)
    stretches = Stretches(a, b, prices)
    return least_prices(stretches)[stretches.whole()]


def least_matching(a, b, prices):
    """Some matching with the least price."""
    need_forests(a, b)
    need_prices(prices)
    posts = node_posts(a)
    others = node_posts(b)
    pairs = [(posts.index(i), others.index(j)) for i, j in _paired_posts(a, b, prices)]
    return tuple(sorted(pairs))


def _paired_posts(a, b, prices):
    """The pairs of a least matching, with the numbers of postorder."""
    stretches = Stretches(a, b, prices)
    table = least_prices(stretches)
    pairs = []
    ahead = [stretches.whole()]
    while ahead:
        at = ahead.pop()
        parts = _least_parts(stretches, table, at)
        # Only the way that pairs the last nodes of both rests on two parts.
        if len(parts) == 2:
            pairs.append((at[1], at[3]))
        ahead.extend(parts)
    return pairs


def _least_parts(stretches, table, at):
    """What the first of the cheapest ways to a pair of stretches rests on."""
    for parts, price in stretches.ways(at):
        if way_price(table, parts, price) == table[at]:
            return parts
    return []


def _priced_matchings(a, b, prices):
    """All matchings, ascending, each with its price ahead."""
    need_forests(a, b)
    need_prices(prices)
    words = node_words(a)
    others = node_words(b)
    return [(pairs_price(words, others, prices, pairs), pairs) for pairs in all_matchings(a, b)]


def _least_matchings(a, b, prices):
    """The matchings with the least price, ascending."""
    priced = _priced_matchings(a, b, prices)
    least = min([price for price, _ in priced])
    return [matching for price, matching in priced if price == least]


def first_matching(a, b, prices):
    """The first, by Python's order, of the matchings with the least price."""
    return _least_matchings(a, b, prices)[0]


def matching_counts(a, b, prices):
    """The pairs (price, number of the matchings with it), prices ascending."""
    counts = {}
    for price, _ in _priced_matchings(a, b, prices):
        counts[price] = counts.get(price, 0) + 1
    return tuple([(price, counts[price]) for price in sorted(counts)])


def sure_pairs(a, b, prices):
    """The pairs that stand in all matchings with the least price, ascending."""
    sure, _ = _sure_and_open(a, b, prices)
    return sure


def open_pairs(a, b, prices):
    """The pairs that stand in some matchings with the least price, but not in all, ascending."""
    _, unsure = _sure_and_open(a, b, prices)
    return unsure


def _sure_and_open(a, b, prices):
    matchings = _least_matchings(a, b, prices)
    counts = {}
    for matching in matchings:
        for pair in matching:
            counts[pair] = counts.get(pair, 0) + 1
    sure = [pair for pair in sorted(counts) if counts[pair] == len(matchings)]
    unsure = [pair for pair in sorted(counts) if counts[pair] < len(matchings)]
    return (tuple(sure), tuple(unsure))
