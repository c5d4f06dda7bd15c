"""Assignments: a column for each row of a table, all unlike, with the least sum, and what shows that.

A table is a list or tuple of rows of integers, at least as many columns as rows. An assignment
is a dict that gives, for each column that is taken, its row.
"""


def least_assignment(table):
    """An assignment with the least sum."""
    owners = {}
    for i in range(len(table)):
        _take_in(table, owners, i)
    return owners


def _take_in(table, owners, i):
    """Give a column to one more row; rows that had one may get another one."""
    costs = list(table[i])
    came = _spread(table, owners, costs)
    _, column = min([(cost, j) for j, cost in enumerate(costs) if j not in owners])
    while came[column] is not None:
        owners[column] = owners[came[column]]
        column = came[column]
    owners[column] = i


def _spread(table, owners, costs):
    """Lower the costs of columns as far as rows that go from one column to another one lower them.

    The result tells for each column from where its cost was lowered last, None if it was not.
    """
    came = [None] * len(costs)
    lowered = True
    while lowered:
        lowered = False
        for j, i in owners.items():
            for k in range(len(costs)):
                cost = costs[j] + table[i][k] - table[i][j]
                if cost < costs[k]:
                    costs[k] = cost
                    came[k] = j
                    lowered = True
    return came


def bounds_of(table, width, owners):
    """Numbers for the rows and for so many columns: a row's and a column's sum is at most their entry.

    The owners are an assignment with the least sum; the numbers have this sum together. No
    column's number is above 0, and those of columns that are not taken are 0.
    """
    falls = [0] * width
    _spread(table, owners, falls)
    heights = [0] * len(table)
    for j, i in owners.items():
        heights[i] = table[i][j] - falls[j]
    return (heights, falls)
