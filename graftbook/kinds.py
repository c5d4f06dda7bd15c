"""What kind of value something is: integers, numbers, words, tuples of a length."""

FIGURES = "0123456789"
LETTERS = "abcdefghijklmnopqrstuvwxyz"
LONGEST_WORD = 8


def is_integer(value):
    """Whether a value is an int that is not a bool."""
    return isinstance(value, int) and not isinstance(value, bool)


def is_number(value):
    """Whether a value is an integer from 0 on."""
    return is_integer(value) and value >= 0


def is_word(value):
    """Whether a value is a string of 1 to 8 letters a to z."""
    if not isinstance(value, str) or not 1 <= len(value) <= LONGEST_WORD:
        return False
    return all(letter in LETTERS for letter in value)


def is_tuple_of(value, length):
    """Whether a value is a tuple with so many members."""
    return isinstance(value, tuple) and len(value) == length


def are_integers(values):
    """Whether all of some values are integers."""
    return all(is_integer(value) for value in values)


def are_numbers(values):
    """Whether all of some values are numbers."""
    return all(is_number(value) for value in values)


def are_words(values):
    """Whether all of some values are words."""
    return all(is_word(value) for value in values)
