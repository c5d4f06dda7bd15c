"""Prices: what it costs to drop, to add and to change a word."""

from graftbook.errors import InvalidPrices
from graftbook.kinds import are_numbers, is_number, is_tuple_of, is_word


def change_price(prices, word, other):
    """The price of changing a word to another one."""
    need_prices(prices)
    return change_cost(prices, word, other)


def change_cost(prices, word, other):
    """As change_price, for what surely is prices."""
    if word == other:
        return 0
    for old, new, price in prices[3]:
        if old == word and new == other:
            return price
    return prices[2]


def is_prices(value):
    """Whether a value is prices."""
    if not is_tuple_of(value, 4) or not are_numbers(value[:3]):
        return False
    table = value[3]
    if not isinstance(table, tuple) or not all(_is_entry(entry) for entry in table):
        return False
    return len({(word, other) for word, other, _ in table}) == len(table)


def _is_entry(entry):
    if not is_tuple_of(entry, 3):
        return False
    word, other, price = entry
    return is_word(word) and is_word(other) and word != other and is_number(price)


def need_prices(value):
    """Raise InvalidPrices if a value is no prices."""
    if not is_prices(value):
        raise InvalidPrices(value)


def prices_turned(prices):
    """The prices of the way back."""
    need_prices(prices)
    drop, add, change, table = prices
    return (add, drop, change, tuple([(other, word, price) for word, other, price in table]))


def is_chained(prices, words):
    """Whether no change of these words is dearer than one by way of another, or than drop and add."""
    need_prices(prices)
    unlike = sorted(set(words))
    for word in unlike:
        for other in unlike:
            if change_cost(prices, word, other) > _least_detour(prices, unlike, word, other):
                return False
    return True


def _least_detour(prices, words, word, other):
    """The least price of getting from a word to another one in two parts."""
    detour = prices[0] + prices[1]
    for middle in words:
        by_middle = change_cost(prices, word, middle) + change_cost(prices, middle, other)
        detour = min(detour, by_middle)
    return detour
