"""Positions: whose the turns were, and who has which cell."""

from drawnturns.errors import Unfit
from drawnturns.kinds import is_cell, is_hand, is_pair


def position_error(many, value):
    """Return None if value is a position for many cells, otherwise what is wrong."""
    if not is_pair_of_tuples(value):
        return "form"
    row, standing = value
    if len(row) > many or not all([is_hand(item) for item in row]):
        return "row"
    if len(standing) != many:
        return "many"
    for cell, item in enumerate(standing):
        if item is not None and not is_hand(item):
            return ("cell", cell)
    if any([row.count(hand) != standing.count(hand) for hand in (0, 1)]):
        return "number"
    return None


def is_pair_of_tuples(value):
    """Return whether value is a tuple of two tuples."""
    return is_pair(value) and all([isinstance(part, tuple) for part in value])


def empty_cells(standing):
    """Return the ascending tuple of the cells that nobody has."""
    return tuple([cell for cell, item in enumerate(standing) if item is None])


def taken(position, hand, cell):
    """Return the position behind hand's taking cell."""
    row, standing = position
    if not is_hand(hand) or not is_cell(len(standing), cell):
        raise Unfit()
    if standing[cell] is not None:
        raise Unfit()
    return (row + (hand,), standing[:cell] + (hand,) + standing[cell + 1:])


def fillings(standing):
    """Return the ascending tuple of all boards that the standing can become."""
    boards = [()]
    for item in standing:
        hands = (0, 1) if item is None else (item,)
        boards = [board + (hand,) for board in boards for hand in hands]
    return tuple(boards)
