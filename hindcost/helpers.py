"""What all modules need: tests of plain values."""


def is_integer(value):
    """Return whether the value is an integer."""
    # Python counts True and False among the integers, the document does not.
    return isinstance(value, int) and not isinstance(value, bool)


def is_integer_from(value, least, greatest):
    """Return whether the value is an integer from least to greatest."""
    return is_integer(value) and least <= value <= greatest


def is_tuple_of(value, size):
    """Return whether the value is a tuple with this many entries."""
    return isinstance(value, tuple) and len(value) == size
