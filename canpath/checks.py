"""Questions about any value that several files ask."""

from canpath.bounds import MAX_PLACE


def is_number(value):
    """Tell whether the value is a number."""
    # Python counts True and False as integers; the package does not.
    return isinstance(value, int) and not isinstance(value, bool)


def is_number_within(value, low, high):
    """Tell whether the value is a number from low to high."""
    return is_number(value) and low <= value <= high


def is_number_from(value, low):
    """Tell whether the value is a number from low on."""
    return is_number(value) and low <= value


def is_place(value):
    """Tell whether the value is a place on the path."""
    return is_number_within(value, -MAX_PLACE, MAX_PLACE)


def is_tuple_of(value, many):
    """Tell whether the value is a tuple of so many items."""
    return isinstance(value, tuple) and len(value) == many


def ascends(items):
    """Tell whether each item of the list is greater than the one before it."""
    return all([low < high for low, high in zip(items, items[1:])])
