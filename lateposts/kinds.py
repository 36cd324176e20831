"""What kind of value a value is, asked of any value."""


def is_integer(value):
    """Whether a value is an integer; True and False are none."""
    return isinstance(value, int) and not isinstance(value, bool)


def is_index(value, many):
    """Whether a value is the index of one of so many items, counted from 0."""
    return is_integer(value) and 0 <= value < many


def is_tuple(value, fewest, most):
    """Whether a value is a tuple with as many items as told."""
    return isinstance(value, tuple) and fewest <= len(value) <= most


def is_numbers(value):
    """Whether a value is a tuple of integers."""
    return isinstance(value, tuple) and all([is_integer(number) for number in value])
