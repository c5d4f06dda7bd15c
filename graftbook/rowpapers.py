"""Row papers: tables that show that no row matching is cheaper."""

from graftbook.kinds import are_integers, is_integer, is_tuple_of
from graftbook.prices import change_cost, need_prices
from graftbook.rows import prices_ahead


def row_paper(a, b, prices):
    """A row paper for the row distance."""
    need_prices(prices)
    return tuple([tuple(row) for row in prices_ahead(a, b, prices)])


def row_paper_holds(a, b, prices, n, paper):
    """Whether a paper is a row paper for n."""
    need_prices(prices)
    if not is_integer(n) or not _is_table(paper, len(a) + 1, len(b) + 1):
        return False
    for i in range(len(a) + 1):
        for j in range(len(b) + 1):
            if paper[i][j] > min(_bounds(a, b, prices, paper, i, j)):
                return False
    return paper[len(a)][len(b)] == n


def _is_table(value, height, width):
    """Whether a value is a tuple of so many tuples of so many integers."""
    if not is_tuple_of(value, height):
        return False
    return all(is_tuple_of(row, width) and are_integers(row) for row in value)


def _bounds(a, b, prices, paper, i, j):
    """What the entry at i and j must not exceed."""
    if i == 0 and j == 0:
        return [0]
    bounds = []
    if i > 0:
        bounds.append(paper[i - 1][j] + prices[0])
    if j > 0:
        bounds.append(paper[i][j - 1] + prices[1])
    if i > 0 and j > 0:
        bounds.append(paper[i - 1][j - 1] + change_cost(prices, a[i - 1], b[j - 1]))
    return bounds
