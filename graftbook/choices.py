"""Choices in square tables: a column for each row, all unlike, and papers for the least sum."""

from itertools import permutations

from graftbook.assignments import bounds_of
from graftbook.errors import InvalidTable
from graftbook.kinds import are_integers, are_numbers, is_tuple_of

MOST_ROWS = 5


def is_table(value):
    """Whether a value is a table: one to five rows of as many numbers."""
    if not isinstance(value, tuple) or not 1 <= len(value) <= MOST_ROWS:
        return False
    return all(is_tuple_of(row, len(value)) and are_numbers(row) for row in value)


def _need_table(value):
    if not is_table(value):
        raise InvalidTable(value)


def best_choice(table):
    """The first, by Python's order, of the choices with the least sum."""
    _need_table(table)
    choices = list(permutations(range(len(table))))
    return min(choices, key=lambda choice: choice_sum(table, choice))


def choice_sum(table, choice):
    """The sum of a choice's entries."""
    return sum([row[column] for row, column in zip(table, choice)])


def choice_paper(table):
    """Some pair of tuples of integers that shows that no choice has a lesser sum."""
    owners = {column: i for i, column in enumerate(best_choice(table))}
    heights, falls = bounds_of(table, len(table), owners)
    return (tuple(heights), tuple(falls))


def choice_holds(table, choice, paper):
    """Whether the choice is one, and the paper shows that none has a lesser sum."""
    _need_table(table)
    if not _is_choice(choice, len(table)) or not _is_paper(paper, len(table)):
        return False
    u, v = paper
    for i, row in enumerate(table):
        for j, entry in enumerate(row):
            if u[i] + v[j] > entry:
                return False
    return sum(u) + sum(v) == choice_sum(table, choice)


def _is_choice(value, size):
    if not is_tuple_of(value, size) or not are_numbers(value):
        return False
    return sorted(value) == list(range(size))


def _is_paper(value, size):
    """Whether a value is a pair of tuples of so many integers."""
    if not is_tuple_of(value, 2):
        return False
    return all(is_tuple_of(part, size) and are_integers(part) for part in value)
