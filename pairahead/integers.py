"""Integers as the document means them: True and False are none."""


def is_integer(value):
    """Tell whether the value is an integer."""
    return isinstance(value, int) and not isinstance(value, bool)


def is_below(value, count):
    """Tell whether the value is an integer from 0 to count - 1."""
    return is_integer(value) and 0 <= value < count


def is_positive(value):
    """Tell whether the value is an integer above 0."""
    return is_integer(value) and value > 0


def read_state(word):
    """Return the state that a word of a text stands for, or None if it is certainly none.

    A word such as `07` is read too: whoever reads a text compares it with the text of the result.
    """
    # No table has more than 48 rows, so a state has at most two digits.
    if len(word) > 2 or not word.isascii() or not word.isdigit():
        return None
    return int(word)
