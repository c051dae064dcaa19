"""Hex boards: rows and columns of cells, each with up to six cells next to it."""

from drawnturns.triangles import cells_in, number_at, row_and_place


def hex_near(rows, columns, cell):
    """Return the ascending tuple of the cells next to cell."""
    row, column = divmod(cell, columns)
    # In this order the numbers ascend.
    around = (
        (row - 1, column), (row - 1, column + 1),
        (row, column - 1), (row, column + 1),
        (row + 1, column - 1), (row + 1, column),
    )
    return tuple([i * columns + j for i, j in around if 0 <= i < rows and 0 <= j < columns])


def hex_owner(rows, columns, board):
    """Return 1 if A joins the first row and the last one, otherwise 0."""
    return 0 if joining_path(rows, columns, board, 1) is None else 1


def hex_path(rows, columns, board):
    """Return a path of the hand that joins, from its first line to its last one."""
    path = joining_path(rows, columns, board, 1)
    if path is None:
        return joining_path(rows, columns, board, 0)
    return path


def joining_path(rows, columns, board, hand):
    """Return a shortest path of hand's cells from its first line to its last one, or None."""
    last = (rows if hand == 1 else columns) - 1
    waiting = [
        cell for cell in range(rows * columns)
        if board[cell] == hand and line_of(columns, cell, hand) == 0
    ]
    ahead = {cell: None for cell in waiting}
    done = 0
    while done < len(waiting):
        cell = waiting[done]
        done += 1
        if line_of(columns, cell, hand) == last:
            return path_to(ahead, cell)
        for other in hex_near(rows, columns, cell):
            if board[other] == hand and other not in ahead:
                ahead[other] = cell
                waiting.append(other)
    return None


def line_of(columns, cell, hand):
    """Return the cell's row for A, its column for B: the lines that the hand joins."""
    row, column = divmod(cell, columns)
    return row if hand == 1 else column


def path_to(ahead, cell):
    """Return the cells that lead to cell, each of them being ahead of the next one."""
    path = []
    while cell is not None:
        path.append(cell)
        cell = ahead[cell]
    return tuple(path[::-1])


def hex_in_y(rows, columns):
    """Return the triangle in which the hex board stands: its side, its standing, the places."""
    side = rows + columns - 1
    standing = tuple([hand_beside(rows, columns, cell) for cell in range(cells_in(side))])
    places = tuple([number_at(i + j, j) for i in range(rows) for j in range(columns)])
    return (side, standing, places)


def hand_beside(rows, columns, cell):
    """Return whose the triangle's cell beside the hex board is, None for a cell within it."""
    row, place = row_and_place(cell)
    if row - place >= rows:
        return 1
    if place >= columns:
        return 0
    return None
