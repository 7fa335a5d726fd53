"""The plainest questions about any value."""


def is_integer(value):
    """Whether any value is an integer; True and False are none."""
    return isinstance(value, int) and not isinstance(value, bool)


def is_number(value):
    """Whether any value is an integer from 0 on."""
    return is_integer(value) and value >= 0


def is_below(value, limit):
    """Whether any value is a number below the limit."""
    return is_number(value) and value < limit


def is_sequence(value):
    """Whether any value is a list or a tuple; a string is none."""
    return isinstance(value, (list, tuple))


def is_tuple_of(value, length):
    """Whether any value is a tuple of so many things."""
    return isinstance(value, tuple) and len(value) == length
