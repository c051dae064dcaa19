"""What cells weigh, and which are best to take."""

from drawnturns.bounds import MAX_TREE
from drawnturns.drawing import is_exchangeable
from drawnturns.errors import TooMany, Unfit
from drawnturns.gametree import worth_at
from drawnturns.means import can_be_next, mean_at, mean_over, numbers_behind
from drawnturns.positions import empty_cells, taken
from drawnturns.ratios import on_one_scale, without
from drawnturns.scoring import filled_worths


def weighs(draws, score, position, cell):
    """Return by how much the mean behind A's taking the cell is greater than that behind B's."""
    if not is_exchangeable(len(position[1]), draws):
        raise Unfit()
    # A hand that cannot be next leads to a position that cannot come, which has no mean.
    of_a, of_b = [mean_at(draws, score, taken(position, hand, cell)) for hand in (1, 0)]
    return without(of_a, of_b)


def best_cells(draws, score, position, hand):
    """Return the ascending tuple of the empty cells that are best for hand."""
    return wished_cells(draws, score, position, hand, hand)


def worst_cells(draws, score, position, hand):
    """Return the ascending tuple of the empty cells that are worst for hand."""
    return wished_cells(draws, score, position, hand, 1 - hand)


def wished_cells(draws, score, position, hand, wish):
    """Return the ascending tuple of the empty cells that the hand wish would have hand take."""
    if not can_be_next(draws, position, hand):
        raise Unfit()
    cells = empty_cells(position[1])
    worths, _ = on_one_scale(worths_behind(draws, score, position, hand))
    best = max(worths) if wish == 1 else min(worths)
    return tuple([cell for cell, worth in zip(cells, worths) if worth == best])


def worths_behind(draws, score, position, hand):
    """Return the list of the worths of the game behind hand's taking each empty cell."""
    cells = empty_cells(position[1])
    if is_exchangeable(len(position[1]), draws):
        return means_behind(draws, score, position, hand)
    if len(cells) > MAX_TREE:
        raise TooMany(MAX_TREE)
    return [worth_at(draws, score, taken(position, hand, cell)) for cell in cells]


def means_behind(draws, score, position, hand):
    """Return the list of the means behind hand's taking each empty cell."""
    row, standing = position
    numbers = numbers_behind(len(standing), draws, row + (hand,))
    worths = filled_worths(score, standing)
    return [
        mean_over(numbers, {board: worth for board, worth in worths.items() if board[cell] == hand})
        for cell in empty_cells(standing)
    ]
