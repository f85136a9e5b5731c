"""Tests of any values, which several modules need."""

LETTERS = "abcdefghijklmnopqrstuvwxyz"
LONGEST_NAME = 8


def is_count(value):
    """Whether any value is a non-negative integer."""
    # True and False are integers for Python, but not for this program.
    return isinstance(value, int) and not isinstance(value, bool) and value >= 0


def is_index(value, many):
    """Whether any value is a count below many."""
    return is_count(value) and value < many


def is_between(value, least, most):
    """Whether any value is an integer from least to most, neither of them below 0."""
    return is_count(value) and least <= value <= most


def is_name(value):
    """Whether any value is a string of 1 to 8 letters from a to z."""
    if not isinstance(value, str) or not 1 <= len(value) <= LONGEST_NAME:
        return False
    return all([letter in LETTERS for letter in value])


def is_step(value):
    """Whether any value is a tuple of two counts."""
    return isinstance(value, tuple) and len(value) == 2 and is_count(value[0]) and is_count(value[1])


def is_listing(value):
    """Whether any value is a list or tuple."""
    return isinstance(value, (list, tuple))


def are_names(value, most):
    """Whether any value is a list or tuple of at most so many unlike names."""
    if not is_listing(value) or len(value) > most:
        return False
    return all([is_name(name) for name in value]) and len(set(value)) == len(value)
