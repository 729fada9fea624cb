"""What kind of value a value is, for values that may be anything."""


def is_integer(value):
    # Python counts True and False among the integers; this package does not.
    return isinstance(value, int) and value is not True and value is not False


def is_integer_between(value, low, high):
    return is_integer(value) and low <= value <= high


def is_tuple_between(value, low, high):
    """Whether a value is a tuple with at least `low` and at most `high` parts."""
    return isinstance(value, tuple) and low <= len(value) <= high


def is_integer_tuple(value, size):
    """Whether a value is a tuple of exactly `size` integers."""
    return is_tuple_between(value, size, size) and all([is_integer(part) for part in value])
