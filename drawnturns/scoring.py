"""What boards are worth by a score, and how the worth hangs on the cells."""

from drawnturns.hexes import hex_owner
from drawnturns.positions import fillings
from drawnturns.triangles import cells_in, last_owner


def worth_of(score, board):
    """Return the worth of the board by the score."""
    word = score[0]
    if word == "number":
        return score[1]
    if word == "cell":
        return board[score[1]]
    if word == "y":
        return last_owner(score[1], board[:cells_in(score[1])])
    if word == "hex":
        return hex_owner(score[1], score[2], board[:score[1] * score[2]])
    if word == "if":
        chosen = 2 if worth_of(score[1], board) > 0 else 3
        return worth_of(score[chosen], board)
    return joined(word, [worth_of(part, board) for part in score[1:]])


def joined(word, worths):
    """Return the worth that the word makes of the worths of the scores behind it."""
    if word == "sum":
        return sum(worths)
    if word == "least":
        return min(worths)
    if word == "greatest":
        return max(worths)
    if word == "times":
        return worths[0] * worths[1]
    return 1 if worths[0] == 0 else 0


def all_worths(many, score):
    """Return the dict of the worths of all boards of many cells."""
    return {board: worth_of(score, board) for board in fillings((None,) * many)}


def gains(worths, cell):
    """Return by how much giving the cell to A changes the worth, for all boards on which B has it."""
    return [
        worths[board[:cell] + (1,) + board[cell + 1:]] - worth
        for board, worth in worths.items() if board[cell] == 0
    ]


def is_rising(many, score):
    """Return whether no board is worth less if one cell of B is given to A."""
    worths = all_worths(many, score)
    return all([gain >= 0 for cell in range(many) for gain in gains(worths, cell)])


def depends(many, score):
    """Return the ascending tuple of the cells on which the worth hangs."""
    worths = all_worths(many, score)
    return tuple([cell for cell in range(many) if any([gain != 0 for gain in gains(worths, cell)])])
