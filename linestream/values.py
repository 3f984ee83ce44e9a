"""Kinds of values."""


def is_integer(value):
    """Whether any value is an integer; True and False are none."""
    return isinstance(value, int) and not isinstance(value, bool)


def is_counting(value):
    """Whether any value is an integer from 1 on."""
    return is_integer(value) and value >= 1
