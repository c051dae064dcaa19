"""What counts as an integer, as a hand and as a cell."""


def is_integer(value):
    """Return whether value is an int that is no bool."""
    return isinstance(value, int) and not isinstance(value, bool)


def is_hand(value):
    """Return whether value is the integer 0 or 1."""
    return is_integer(value) and 0 <= value <= 1


def is_cell(many, value):
    """Return whether value is one of so many cells."""
    return is_integer(value) and 0 <= value < many
