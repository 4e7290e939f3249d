"""What any value is looked through for: numbers, sequences, tuples of numbers."""


def is_integer(value):
    # Python holds True and False to be integers, this package does not.
    return isinstance(value, int) and not isinstance(value, bool)


def is_number(value):
    return is_integer(value) and value >= 0


def is_below(value, limit):
    return is_number(value) and value < limit


def is_sequence(value):
    return isinstance(value, (list, tuple))


def are_below(values, limit):
    return all([is_below(value, limit) for value in values])


def is_tuple_below(value, limit):
    """Whether any value is a tuple of numbers below the limit."""
    return isinstance(value, tuple) and are_below(value, limit)


def is_ascending(values):
    """Whether each of these is less than the next one."""
    return all([one < other for one, other in zip(values, values[1:])])
