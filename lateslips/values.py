"""What any value is looked through for: numbers, sequences, tuples of numbers."""

FIGURES = "0123456789"


def is_integer(value):
    # Python holds True and False to be integers, this package does not.
    return isinstance(value, int) and not isinstance(value, bool)


def is_number(value):
    return is_integer(value) and value >= 0


def is_below(value, limit):
    return is_number(value) and value < limit


def is_sequence(value):
    return isinstance(value, (list, tuple))


def are_below(values, limit):
    return all([is_below(value, limit) for value in values])


def is_tuple_below(value, limit):
    """Whether any value is a tuple of numbers below the limit."""
    return isinstance(value, tuple) and are_below(value, limit)


def is_ascending(values):
    """Whether each of these is less than the next one."""
    return all([one < other for one, other in zip(values, values[1:])])


def number_in(word, most):
    """The number that stands in a word, in at most so many figures, None if none does."""
    if len(word) == 0 or len(word) > most or not all([letter in FIGURES for letter in word]):
        return None
    # A zero ahead of another figure would give a second word for the same number.
    if len(word) > 1 and word[0] == "0":
        return None
    return int(word)
