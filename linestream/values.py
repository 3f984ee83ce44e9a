"""Kinds of values."""


def is_integer(value):
    """Whether any value is an integer; True and False are none."""
    return isinstance(value, int) and not isinstance(value, bool)


def is_counting(value):
    """Whether any value is an integer from 1 on."""
    return is_integer(value) and value >= 1


def common(one, other):
    """With how many equal values two lists, or two strings, begin."""
    many = 0
    while many < min(len(one), len(other)) and one[many] == other[many]:
        many += 1
    return many
