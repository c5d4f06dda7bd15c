"""Least prices of stretches: rows of nodes of two forests, numbered by postorder."""

from graftbook.nodes import in_postorder, leaf_numbers, node_words
from graftbook.prices import change_cost


class Stretches:
    """The pairs of stretches (low, high, start, end) of two forests, and what leads to them."""

    def __init__(self, a, b, prices):
        self.prices = prices
        self.words = in_postorder(a, node_words(a))
        self.others = in_postorder(b, node_words(b))
        self.leaves = leaf_numbers(a)
        self.ends = leaf_numbers(b)

    def whole(self):
        """The pair of both forests as a whole."""
        return (0, len(self.words) - 1, 0, len(self.others) - 1)

    def ways(self, at):
        """How a matching of two stretches is made: the smaller pairs it rests on, and a price."""
        low, high, start, end = at
        drop, add, _, _ = self.prices
        found = []
        if high >= low:
            found.append(([(low, high - 1, start, end)], drop))
        if end >= start:
            found.append(([(low, high, start, end - 1)], add))
        if high >= low and end >= start:
            leaf = self.leaves[high]
            other = self.ends[end]
            ahead = (low, leaf - 1, start, other - 1)
            below = (leaf, high - 1, other, end - 1)
            changed = change_cost(self.prices, self.words[high], self.others[end])
            found.append(([ahead, below], changed))
        # Nothing becomes nothing without a price.
        return found if found else [([], 0)]

    def needed(self):
        """All pairs of stretches that the whole rests on, smaller ones first."""
        met = {self.whole(): True}
        ahead = [self.whole()]
        while ahead:
            at = ahead.pop()
            for parts, _ in self.ways(at):
                unmet = [part for part in parts if part not in met]
                for part in unmet:
                    met[part] = True
                ahead.extend(unmet)
        return sorted(list(met), key=lambda at: at[1] - at[0] + at[3] - at[2])


def way_price(table, parts, price):
    """The price of a way, by a table of the prices of the pairs it rests on."""
    return price + sum([table[part] for part in parts])


def least_prices(stretches):
    """A dict of the least prices of all pairs of stretches that the whole rests on."""
    table = {}
    for at in stretches.needed():
        table[at] = min([way_price(table, parts, price) for parts, price in stretches.ways(at)])
    return table
