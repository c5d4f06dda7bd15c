"""Pairs of numbers, such as row matchings and matchings of forests are made of."""

from graftbook.kinds import are_numbers, is_tuple_of
from graftbook.prices import change_cost


def are_rising_pairs(value, size, other):
    """Whether a value is a tuple of pairs of numbers below two sizes, both strictly ascending."""
    if not isinstance(value, tuple):
        return False
    last = (-1, -1)
    for pair in value:
        if not is_tuple_of(pair, 2) or not are_numbers(pair):
            return False
        if not (last[0] < pair[0] < size and last[1] < pair[1] < other):
            return False
        last = pair
    return True


def pairs_price(words, others, prices, pairs):
    """The price of pairs of the members of two rows: drops, adds, and changes of what is paired."""
    changes = sum([change_cost(prices, words[i], others[j]) for i, j in pairs])
    return unpaired_price(prices, len(words) - len(pairs), len(others) - len(pairs)) + changes


def unpaired_price(prices, dropped, added):
    """The price of so many members that are dropped and so many that are added."""
    return prices[0] * dropped + prices[1] * added
