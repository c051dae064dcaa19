"""What boards are worth by a score, and how the worth hangs on the cells."""

from drawnturns.hexes import hex_owner
from drawnturns.positions import fillings
from drawnturns.scores import SINGLE
from drawnturns.triangles import cells_in, last_owner


def worth_of(score, board):
    """Return the worth of the board by the score."""
    return told_worths(score, [board], {})[0]


def told_worths(score, boards, known):
    """Return the list of the worths of the boards; known keeps those by scores without scores in them."""
    if score[0] in SINGLE:
        # Boards of chains take longest, and one of them may stand in a hundred places.
        if score not in known:
            known[score] = [single_worth(score, board) for board in boards]
        return known[score]
    worths = [told_worths(part, boards, known) for part in score[1:]]
    return [joined(score[0], told) for told in zip(*worths)]


def single_worth(score, board):
    """Return the worth of the board by a score without scores in it."""
    word = score[0]
    if word == "number":
        return score[1]
    if word == "cell":
        return board[score[1]]
    if word == "y":
        return last_owner(score[1], board[:cells_in(score[1])])
    return hex_owner(score[1], score[2], board[:score[1] * score[2]])


def joined(word, worths):
    """Return the worth that the word makes of the worths of the scores behind it."""
    if word == "sum":
        return sum(worths)
    if word == "least":
        return min(worths)
    if word == "greatest":
        return max(worths)
    if word == "times":
        return worths[0] * worths[1]
    if word == "if":
        return worths[1] if worths[0] > 0 else worths[2]
    return 1 if worths[0] == 0 else 0


def filled_worths(score, standing):
    """Return the dict of the worths of all boards that the standing can become."""
    boards = fillings(standing)
    return {board: worth for board, worth in zip(boards, told_worths(score, boards, {}))}


def all_worths(many, score):
    """Return the dict of the worths of all boards of many cells."""
    return filled_worths(score, (None,) * many)


def gains(worths, cell):
    """Return the dict of how much giving the cell to A changes the worth, for all boards on which B has it."""
    return {
        board: worths[board[:cell] + (1,) + board[cell + 1:]] - worth
        for board, worth in worths.items() if board[cell] == 0
    }


def is_rising(many, score):
    """Return whether no board is worth less if one cell of B is given to A."""
    worths = all_worths(many, score)
    return all([gain >= 0 for cell in range(many) for gain in gains(worths, cell).values()])


def depends(many, score):
    """Return the ascending tuple of the cells on which the worth hangs."""
    worths = all_worths(many, score)
    return tuple([cell for cell in range(many) if any([gain != 0 for gain in gains(worths, cell).values()])])
