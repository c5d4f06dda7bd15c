"""Matchings from the top: those that pair no node without its parent."""

from graftbook.forests import need_forests
from graftbook.matchings import all_matchings, need_matching
from graftbook.nodes import node_parents, node_words, tree_size
from graftbook.pairs import pairs_price
from graftbook.prices import change_cost, need_prices


def is_from_top(a, b, matching):
    """Whether with each pair both are roots, or their parents are paired, too."""
    need_forests(a, b)
    need_matching(matching, a, b)
    return _is_from_top(node_parents(a), node_parents(b), matching)


def _is_from_top(parents, others, pairs):
    """Whether pairs are from the top, by the parents of both forests' nodes."""
    above = [(parents[i], others[j]) for i, j in pairs]
    return all(pair == (-1, -1) or pair in pairs for pair in above)


def top_distance(a, b, prices):
    """The least price of a matching from the top."""
    need_forests(a, b)
    need_prices(prices)
    return _least_price(a, b, prices)


def _least_price(row, other_row, prices):
    """As top_distance, for what surely is two rows of trees and prices."""
    drops = [prices[0] * tree_size(tree) for tree in row]
    adds = [prices[1] * tree_size(tree) for tree in other_row]
    ahead = [0]
    for added in adds:
        ahead.append(ahead[-1] + added)
    for tree, dropped in zip(row, drops):
        line = [ahead[0] + dropped]
        for j, other in enumerate(other_row):
            paired = ahead[j] + _pair_price(tree, other, prices)
            line.append(min(ahead[j + 1] + dropped, line[j] + adds[j], paired))
        ahead = line
    return ahead[-1]


def _pair_price(tree, other, prices):
    """The least price of making one tree of another if their roots are paired."""
    return change_cost(prices, tree[0], other[0]) + _least_price(tree[1], other[1], prices)


def first_top_matching(a, b, prices):
    """The first, by Python's order, of the matchings from the top with the least price."""
    need_forests(a, b)
    need_prices(prices)
    parents = node_parents(a)
    others = node_parents(b)
    found = [pairs for pairs in all_matchings(a, b) if _is_from_top(parents, others, pairs)]
    words = node_words(a)
    other_words = node_words(b)
    # Of matchings with one price the first one counts, as they ascend.
    return min(found, key=lambda pairs: pairs_price(words, other_words, prices, pairs))
