"""Loose distances: pairs of nodes whose parents are paired, in whatever order, and their papers."""

from graftbook.assignments import bounds_of, least_assignment
from graftbook.forests import need_forests
from graftbook.kinds import are_integers, are_numbers, is_integer, is_tuple_of
from graftbook.nodes import node_parents, node_words, tree_size
from graftbook.pairs import pairs_price
from graftbook.prices import change_cost, need_prices


def loose_distance(a, b, prices):
    """The least price of a set of pairs that are of two roots, or of children of a pair."""
    need_forests(a, b)
    need_prices(prices)
    price, _, _ = _solved(a, b, prices)
    return price


def loose_pairs(a, b, prices):
    """Some such set with the least price, as a tuple of pairs, ascending."""
    need_forests(a, b)
    need_prices(prices)
    _, pairs, _ = _solved(a, b, prices)
    return tuple(sorted(pairs))


def loose_paper(a, b, prices):
    """Some loose paper for the loose distance."""
    need_forests(a, b)
    need_prices(prices)
    _, _, paper = _solved(a, b, prices)
    return paper


def _solved(a, b, prices):
    """The loose distance of two rows of trees, a list of pairs with it, and a paper for it."""
    solved = [[_solved_pair(tree, other, prices) for other in b] for tree in a]
    adds = _tree_prices(b, prices[1])
    table = _saving_table(a, prices, solved, adds)
    owners = least_assignment(table)
    u, falls = bounds_of(table, len(b) + len(a) + 1, owners)
    v = [added + falls[j] for j, added in enumerate(adds)]
    parts = tuple([tuple([(price, paper) for price, _, paper in row]) for row in solved])
    return (sum(u) + sum(v), _pairs_by(a, b, solved, owners), (parts, tuple(u), tuple(v)))


def _solved_pair(tree, other, prices):
    """The least price of two trees whose roots are paired, a list of pairs with it, a paper for what is below."""
    price, pairs, paper = _solved(tree[1], other[1], prices)
    further = [(i + 1, j + 1) for i, j in pairs]
    return (price + change_cost(prices, tree[0], other[0]), [(0, 0)] + further, paper)


def _tree_prices(row, price):
    """For each tree of a row what its nodes cost at one price for each."""
    return [price * tree_size(tree) for tree in row]


def _saving_table(a, prices, solved, adds):
    """For each root of a what it costs with each root of b, less adding that, and then to drop it."""
    table = []
    for row, dropped in zip(solved, _tree_prices(a, prices[0])):
        paired = [price - added for (price, _, _), added in zip(row, adds)]
        # One column more than roots to be dropped: one is never taken, so that no
        # root's bound is above the price of dropping it.
        table.append(paired + [dropped] * (len(a) + 1))
    return table


def _pairs_by(a, b, solved, owners):
    """The pairs of nodes that an assignment of roots to roots brings."""
    starts = _starts(a)
    others = _starts(b)
    found = []
    for j, i in owners.items():
        if j < len(b):
            _, pairs, _ = solved[i][j]
            found.extend([(starts[i] + k, others[j] + m) for k, m in pairs])
    return found


def _starts(row):
    """The numbers of the roots of a row of trees."""
    starts = []
    start = 0
    for tree in row:
        starts.append(start)
        start += tree_size(tree)
    return starts


def loose_holds(a, b, prices, n, pairs, paper):
    """Whether n is the price of such a set of pairs, and the paper shows that none is cheaper."""
    need_forests(a, b)
    need_prices(prices)
    if not is_integer(n) or not _are_loose_pairs(pairs, node_parents(a), node_parents(b)):
        return False
    if pairs_price(node_words(a), node_words(b), prices, pairs) != n:
        return False
    return _is_paper(a, b, prices, n, paper)


def _are_loose_pairs(value, parents, others):
    """Whether a value is a tuple of such pairs, ascending, by the parents of both forests' nodes."""
    if not isinstance(value, tuple):
        return False
    for pair in value:
        if not is_tuple_of(pair, 2) or not are_numbers(pair):
            return False
        if pair[0] >= len(parents) or pair[1] >= len(others):
            return False
    firsts = [i for i, _ in value]
    if firsts != sorted(set(firsts)) or len({j for _, j in value}) < len(value):
        return False
    above = [(parents[i], others[j]) for i, j in value]
    return all(pair == (-1, -1) or pair in value for pair in above)


def _is_paper(a, b, prices, n, value):
    """Whether a value is a loose paper for the integer n."""
    if not is_tuple_of(value, 3):
        return False
    parts, u, v = value
    if not _are_bounds(u, _tree_prices(a, prices[0])) or not _are_bounds(v, _tree_prices(b, prices[1])):
        return False
    if sum(u) + sum(v) != n or not is_tuple_of(parts, len(a)):
        return False
    for tree, row, low in zip(a, parts, u):
        if not is_tuple_of(row, len(b)):
            return False
        for other, part, other_low in zip(b, row, v):
            if not _is_part(tree, other, prices, low + other_low, part):
                return False
    return True


def _are_bounds(value, prices):
    """Whether a value is a tuple of integers, each at most the price of the same place."""
    if not is_tuple_of(value, len(prices)) or not are_integers(value):
        return False
    return all(low <= price for low, price in zip(value, prices))


def _is_part(tree, other, prices, low, part):
    """Whether a part of a paper shows that two trees with paired roots cost no less than low."""
    if not is_tuple_of(part, 2) or not is_integer(part[0]) or part[0] < low:
        return False
    below = part[0] - change_cost(prices, tree[0], other[0])
    return _is_paper(tree[1], other[1], prices, below, part[1])
