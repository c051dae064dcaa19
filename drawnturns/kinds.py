"""What counts as an integer, as a hand, as a cell and as a pair."""


def is_integer(value):
    """Return whether value is an int that is no bool."""
    return isinstance(value, int) and not isinstance(value, bool)


def is_hand(value):
    """Return whether value is the integer 0 or 1."""
    return is_integer(value) and 0 <= value <= 1


def is_cell(many, value):
    """Return whether value is one of so many cells."""
    return is_integer(value) and 0 <= value < many


def is_pair(value):
    """Return whether value is a tuple of two items."""
    return isinstance(value, tuple) and len(value) == 2
