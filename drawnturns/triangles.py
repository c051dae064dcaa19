"""Triangles: rows of 1, 2, 3 and more cells, numbered row by row."""

from drawnturns.errors import Unfit


def cells_in(side):
    """Return how many cells a triangle of the side has."""
    return side * (side + 1) // 2


def number_at(row, place):
    """Return the number of the cell in the row at the place."""
    return cells_in(row) + place


def row_and_place(cell):
    """Return the row of the cell and its place there."""
    row = 0
    while cells_in(row + 1) <= cell:
        row += 1
    return (row, cell - cells_in(row))


def near(side, cell):
    """Return the ascending tuple of the cells next to cell."""
    row, place = row_and_place(cell)
    # In this order the numbers ascend.
    around = (
        (row - 1, place - 1), (row - 1, place),
        (row, place - 1), (row, place + 1),
        (row + 1, place), (row + 1, place + 1),
    )
    return tuple([number_at(r, c) for r, c in around if 0 <= c <= r < side])


def touches(side, cell):
    """Return the ascending tuple of the sides that cell touches."""
    row, place = row_and_place(cell)
    at_sides = (place == 0, place == row, row == side - 1)
    return tuple([number for number, is_there in enumerate(at_sides) if is_there])


def reduced(side, board):
    """Return the board of the triangle one smaller that majorities of three make."""
    if side == 1:
        raise Unfit()
    return tuple([
        majority_below(board, row, place) for row in range(side - 1) for place in range(row + 1)
    ])


def majority_below(board, row, place):
    """Return who has most of the cell there and the two below it."""
    below = number_at(row + 1, place)
    of_a = board[number_at(row, place)] + board[below] + board[below + 1]
    return 1 if of_a >= 2 else 0


def last_owner(side, board):
    """Return who has the one cell that is left when board is reduced again and again."""
    while side > 1:
        board = reduced(side, board)
        side -= 1
    return board[0]
