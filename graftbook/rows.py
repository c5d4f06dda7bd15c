"""Rows of words, what it costs to make one of another, and their row matchings."""

from graftbook.errors import InvalidMatching
from graftbook.pairs import are_rising_pairs, pairs_price, unpaired_price
from graftbook.prices import change_cost, need_prices

# An unlike pair costs more than a drop and an add, so that none is in a least
# matching, and each equal pair saves as much as every other one.
EQUAL_ALONE = (1, 1, 3, ())


def row_price(a, b, prices, matching):
    """The price of a row matching."""
    need_prices(prices)
    if not is_row_matching(matching, a, b):
        raise InvalidMatching(matching)
    return pairs_price(a, b, prices, matching)


def is_row_matching(value, a, b):
    """Whether a value is a row matching of two rows."""
    return are_rising_pairs(value, len(a), len(b))


def row_distance(a, b, prices):
    """The least price of a row matching."""
    need_prices(prices)
    return prices_ahead(a, b, prices)[len(a)][len(b)]


def prices_ahead(a, b, prices):
    """At i and j the least price of matching the first i members of a and the first j of b."""
    drop, add, _, _ = prices
    table = [[j * add for j in range(len(b) + 1)]]
    for i, word in enumerate(a):
        above = table[i]
        row = [above[0] + drop]
        for j, other in enumerate(b):
            changed = above[j] + change_cost(prices, word, other)
            row.append(min(above[j + 1] + drop, row[j] + add, changed))
        table.append(row)
    return table


def _prices_behind(a, b, prices):
    """At i and j the least price of matching what stands in a from i on and in b from j on."""
    turned = prices_ahead(a[::-1], b[::-1], prices)
    return [row[::-1] for row in turned[::-1]]


def _next_pairs(a, b, prices, behind, i, j):
    """The pairs that come first in a least matching of a from i on and b from j on, ascending."""
    found = []
    for k in range(i, len(a)):
        for m in range(j, len(b)):
            price = unpaired_price(prices, k - i, m - j) + change_cost(prices, a[k], b[m])
            if price + behind[k + 1][m + 1] == behind[i][j]:
                found.append((k, m))
    return found


def _may_end(a, b, prices, behind, i, j):
    """Whether no further pair makes a least matching of a from i on and b from j on."""
    return unpaired_price(prices, len(a) - i, len(b) - j) == behind[i][j]


def first_row_matching(a, b, prices):
    """The first, by Python's order, of the row matchings with the least price."""
    need_prices(prices)
    behind = _prices_behind(a, b, prices)
    pairs = []
    i = 0
    j = 0
    # A matching comes ahead of those that begin with it, so it ends where it may.
    while not _may_end(a, b, prices, behind, i, j):
        pair = _next_pairs(a, b, prices, behind, i, j)[0]
        pairs.append(pair)
        i = pair[0] + 1
        j = pair[1] + 1
    return tuple(pairs)


def count_row_matchings(a, b, prices):
    """How many row matchings have the least price."""
    need_prices(prices)
    behind = _prices_behind(a, b, prices)
    ways = {}
    for i in reversed(range(len(a) + 1)):
        for j in reversed(range(len(b) + 1)):
            pairs = _next_pairs(a, b, prices, behind, i, j)
            ways[(i, j)] = sum([ways[(k + 1, m + 1)] for k, m in pairs])
            if _may_end(a, b, prices, behind, i, j):
                ways[(i, j)] += 1
    return ways[(0, 0)]


def common_row(a, b):
    """The first of the longest row matchings whose pairs join equal words."""
    # Of the numbers in b that can go with one of a, the least leaves the most to
    # go on with: so the first by Python's order is also the first by the numbers
    # in a and then by those in b.
    return first_row_matching(a, b, EQUAL_ALONE)
