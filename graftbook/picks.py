"""Parts of histories: what a deed needs, deeds picked out of the others, a deed undone."""

from graftbook.errors import InvalidNumber, Undefined
from graftbook.histories import EMPTY_PLOT, all_orders, deeds_in, need_histories
from graftbook.kinds import is_number
from graftbook.scripts import plot_by


def _need_deed(history, i):
    """Raise InvalidNumber unless i is the number of a deed."""
    if not is_number(i) or i >= len(history):
        raise InvalidNumber(i)


def needs(history, i):
    """The numbers of the deeds that stand ahead of deed i in all orders, ascending."""
    need_histories(history)
    _need_deed(history, i)
    return _needs(all_orders(history), i)


def _needs(orders, i):
    ahead = [order[:order.index(i)] for order in orders]
    # The first order is that of the numbers, in which nothing above i stands ahead of it.
    return tuple([k for k in range(i) if all([k in row for row in ahead])])


def layers(history):
    """Rows of the deeds' numbers, each deed in the row behind all rows with deeds that it needs."""
    need_histories(history)
    orders = all_orders(history)
    rows = []
    levels = []
    for i in range(len(history)):
        level = max([levels[k] + 1 for k in _needs(orders, i)], default=0)
        levels.append(level)
        if level == len(rows):
            rows.append([])
        rows[level].append(i)
    return tuple([tuple(row) for row in rows])


def picked(history, numbers):
    """The plot behind some deeds alone, in the first order that begins with just these."""
    need_histories(history)
    _need_unlike_deeds(history, numbers)
    count = len(numbers)
    for order in all_orders(history):
        if sorted(order[:count]) == sorted(numbers):
            return plot_by(EMPTY_PLOT, deeds_in(history, order[:count]))
    raise Undefined("pick")


def _need_unlike_deeds(history, numbers):
    """Raise InvalidNumber with the first that is no deed's number or came earlier."""
    for k, i in enumerate(numbers):
        _need_deed(history, i)
        if i in numbers[:k]:
            raise InvalidNumber(i)


def without(history, i):
    """The first, by Python's order, of the deeds without deed i in the orders that end with it."""
    need_histories(history)
    _need_deed(history, i)
    found = [deeds_in(history, order[:-1]) for order in all_orders(history) if order[-1] == i]
    if not found:
        raise Undefined("undo")
    return min(found)
