"""Chains: cells of one hand that hang together and touch all three sides of a triangle."""

from drawnturns.kinds import is_cell
from drawnturns.triangles import cells_in, near, touches

SIDES = 3


def owner(side, board):
    """Return 1 if A has a chain on board, otherwise 0."""
    return 0 if hand_chain(side, board, 1) is None else 1


def chain(side, board):
    """Return a chain of the owner of board, as an ascending tuple of cells."""
    return hand_chain(side, board, owner(side, board))


def hand_chain(side, board, hand):
    """Return all of hand's cells that hang together with a chain of it, or None if it has no chain."""
    cells = [cell for cell in range(cells_in(side)) if board[cell] == hand]
    while cells:
        group = hanging(side, cells, cells[0])
        if untouched(side, group) is None:
            return group
        cells = [cell for cell in cells if cell not in group]
    return None


def hanging(side, cells, first):
    """Return the ascending tuple of those of the cells that hang together with the first one."""
    group = [first]
    left = {cell: True for cell in cells if cell != first}
    done = 0
    while done < len(group):
        cell = group[done]
        done += 1
        for other in near(side, cell):
            if other in left:
                del left[other]
                group.append(other)
    return tuple(sorted(group))


def untouched(side, cells):
    """Return the least side of the triangle that none of the cells touches, or None."""
    for number in range(SIDES):
        if not any([number in touches(side, cell) for cell in cells]):
            return number
    return None


def chain_error(side, board, value):
    """Return None if value is a chain of the owner of board, otherwise what is wrong."""
    if not is_group(side, value):
        return "form"
    hand = owner(side, board)
    for cell in value:
        if board[cell] != hand:
            return ("owner", cell)
    if hanging(side, value, value[0]) != value:
        return "apart"
    number = untouched(side, value)
    return None if number is None else ("side", number)


def is_group(side, value):
    """Return whether value is an ascending tuple of cells of the triangle, one at least."""
    if not isinstance(value, tuple) or len(value) == 0:
        return False
    if not all([is_cell(cells_in(side), item) for item in value]):
        return False
    return all([value[place - 1] < value[place] for place in range(1, len(value))])
