"""Of what kind a value is, by the words of the document."""


def is_integer(value):
    """Return whether a value is an int and no bool."""
    return isinstance(value, int) and not isinstance(value, bool)


def is_number_to(value, last):
    """Return whether a value is an integer from 0 to last."""
    return is_integer(value) and 0 <= value <= last


def is_pair_with_tuple(value):
    """Return whether a value is a pair whose second item is a tuple."""
    return isinstance(value, tuple) and len(value) == 2 and isinstance(value[1], tuple)
