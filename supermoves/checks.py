"""What all modules ask of plain values: numbers of a size, tuples of a length."""

from supermoves.errors import InvalidNumber


def is_whole(value):
    """Whether a value is a whole number."""
    # Python takes a Boolean for an integer, but here it is nowhere a number.
    return isinstance(value, int) and not isinstance(value, bool)


def is_from(value, low):
    """Whether a value is a whole number of at least low."""
    return is_whole(value) and value >= low


def is_within(value, low, high):
    """Whether a value is a whole number from low to high."""
    return is_whole(value) and low <= value <= high


def is_tuple_of(value, many):
    """Whether a value is a tuple of so many items."""
    return isinstance(value, tuple) and len(value) == many


def check_from(value, low):
    """Refuse what is no whole number of at least low."""
    if not is_from(value, low):
        raise InvalidNumber(value)
