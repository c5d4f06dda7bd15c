"""Histories: scripts that can be run at the empty plot, and the orders in which their deeds may stand."""

from graftbook.errors import Undefined
from graftbook.kinds import are_numbers
from graftbook.merges import plot_of_both
from graftbook.scripts import need_runnable, plots_by

EMPTY_PLOT = ()


def need_histories(*histories):
    """Raise the errors of running several histories at the empty plot, those of the left ones first."""
    need_runnable(EMPTY_PLOT, *histories)


def swapped(row, k):
    """A tuple in which the members k and k + 1 have changed places."""
    return row[:k] + (row[k + 1], row[k]) + row[k + 2:]


def swaps_of(deeds):
    """The numbers k for which the neighbours k and k + 1 of a history may be swapped."""
    plots = plots_by(EMPTY_PLOT, deeds)
    return [k for k in range(len(deeds) - 1) if may_swap(plots[k], deeds[k], deeds[k + 1])]


def may_swap(t, d, e):
    """Whether two neighbours are free at the plot ahead of the first."""
    return plot_of_both(t, (d,), (e,)) is not None


def deeds_in(history, order):
    """The deeds of a history with these numbers, in their order."""
    return tuple([history[i] for i in order])


def all_orders(history):
    """As orders_of, for what surely is a history."""
    first = tuple(range(len(history)))
    found = {first: True}
    ahead = [first]
    while ahead:
        order = ahead.pop()
        for k in swaps_of(deeds_in(history, order)):
            other = swapped(order, k)
            if other not in found:
                found[other] = True
                ahead.append(other)
    return tuple(sorted(found))


def orders_of(history):
    """All orders of a history, ascending."""
    need_histories(history)
    return all_orders(history)


def is_order(history, value):
    """Whether a value is an order of a history."""
    need_histories(history)
    return isinstance(value, tuple) and are_numbers(value) and value in all_orders(history)


def in_order(history, order):
    """The deeds of a history in an order."""
    if not is_order(history, order):
        raise Undefined("order")
    return deeds_in(history, order)


def normal(history):
    """The first, by Python's order, of a history's deeds in all its orders."""
    need_histories(history)
    return min([deeds_in(history, order) for order in all_orders(history)])


def same_deeds(history, other):
    """Whether one history comes from the other one by swaps."""
    need_histories(history, other)
    return normal(history) == normal(other)
