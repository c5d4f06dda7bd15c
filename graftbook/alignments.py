"""Alignments: forests of pairs of words, whose left and right words alone are forests."""

from graftbook.errors import InvalidNumber
from graftbook.forests import need_forests
from graftbook.kinds import is_number, is_tuple_of, is_word
from graftbook.nodes import node_rows, node_words
from graftbook.prices import change_cost, need_prices

NO_WORD = ""


class Aligning:
    """The alignments of parts of two forests; a part is a tuple of numbers of neighbours in a row."""

    def __init__(self, a, b, prices):
        self.prices = prices
        self.words = node_words(a)
        self.others = node_words(b)
        self.rows = node_rows(a)
        self.other_rows = node_rows(b)
        self.least = {}

    def whole(self):
        """The parts that both forests are as a whole."""
        return (self.rows[-1], self.other_rows[-1])

    def ways(self, at):
        """What may come first in an alignment of two parts: a price, both words, what is below and behind."""
        row, other = at
        drop, add, _, _ = self.prices
        found = []
        if row and other:
            below = (self.rows[row[0]], self.other_rows[other[0]])
            left = self.words[row[0]]
            right = self.others[other[0]]
            changed = change_cost(self.prices, left, right)
            found.append((changed, left, right, below, (row[1:], other[1:])))
        if row:
            left = self.words[row[0]]
            for k in range(len(other) + 1):
                below = (self.rows[row[0]], other[:k])
                found.append((drop, left, NO_WORD, below, (row[1:], other[k:])))
        if other:
            right = self.others[other[0]]
            for k in range(len(row) + 1):
                below = (row[:k], self.other_rows[other[0]])
                found.append((add, NO_WORD, right, below, (row[k:], other[1:])))
        return found

    def way_price(self, way):
        """The least price of an alignment that begins in a way."""
        price, _, _, below, behind = way
        return price + self.price(below) + self.price(behind)

    def price(self, at):
        """The least price of an alignment of two parts."""
        if at not in self.least:
            self.least[at] = min([self.way_price(way) for way in self.ways(at)], default=0)
        return self.least[at]

    def best(self, at):
        """An alignment of two parts with the least price."""
        for way in self.ways(at):
            if self.way_price(way) == self.price(at):
                _, left, right, below, behind = way
                return ((left, right, self.best(below)),) + self.best(behind)
        return ()


def is_alignment(value):
    """Whether a value is an alignment."""
    rows = [value]
    while rows:
        row = rows.pop()
        if not isinstance(row, tuple):
            return False
        for node in row:
            if not is_tuple_of(node, 3) or not _are_sides(node[0], node[1]):
                return False
            rows.append(node[2])
    return True


def _are_sides(left, right):
    """Whether two values are the words of a node, of which one may be lacking."""
    if left == NO_WORD:
        return is_word(right)
    return is_word(left) and (right == NO_WORD or is_word(right))


def side_of(alignment, k):
    """The forest of the left (0) or the right (1) words."""
    if not is_number(k) or k > 1:
        raise InvalidNumber(k)
    return _side(alignment, k)


def _side(row, k):
    found = ()
    for node in row:
        below = _side(node[2], k)
        found += below if node[k] == NO_WORD else ((node[k], below),)
    return found


def alignment_holds(a, b, value):
    """Whether a value is an alignment whose sides are a and b."""
    need_forests(a, b)
    return is_alignment(value) and _side(value, 0) == a and _side(value, 1) == b


def _both_words(alignment):
    """The left and right words of the nodes in preorder."""
    found = []
    for left, right, children in alignment:
        found.append((left, right))
        found.extend(_both_words(children))
    return found


def alignment_price(alignment, prices):
    """The price of an alignment: drops, adds and changes."""
    need_prices(prices)
    return sum([_node_price(left, right, prices) for left, right in _both_words(alignment)])


def _node_price(left, right, prices):
    if left == NO_WORD:
        return prices[1]
    if right == NO_WORD:
        return prices[0]
    return change_cost(prices, left, right)


def aligned_distance(a, b, prices):
    """The least price of an alignment of two forests."""
    need_forests(a, b)
    need_prices(prices)
    aligning = Aligning(a, b, prices)
    return aligning.price(aligning.whole())


def best_alignment(a, b, prices):
    """Some alignment of two forests with the least price."""
    need_forests(a, b)
    need_prices(prices)
    aligning = Aligning(a, b, prices)
    return aligning.best(aligning.whole())


def alignment_matching(alignment):
    """The pairs of the numbers, on both sides, of the nodes with two words."""
    pairs = []
    i = 0
    j = 0
    for left, right in _both_words(alignment):
        if left != NO_WORD and right != NO_WORD:
            pairs.append((i, j))
        if left != NO_WORD:
            i += 1
        if right != NO_WORD:
            j += 1
    return tuple(pairs)
