"""The mean over all full boards, by how many of the turns are A's."""

from drawnturns.drawing import chance, weights_behind
from drawnturns.errors import Unfit
from drawnturns.ratios import lowest, summed
from drawnturns.scoring import filled_worths
from drawnturns.tallies import by_number


def position_of(many):
    """Return the position of many cells in which no cell is taken yet."""
    return ((), (None,) * many)


def can_come(draws, position):
    """Return whether the row of the position has a chance above 0."""
    row, standing = position
    return chance(len(standing), draws, row)[0] > 0


def can_be_next(draws, position, hand):
    """Return whether the position can come, and the next turn there can be hand's."""
    row, standing = position
    return len(row) < len(standing) and chance(len(standing), draws, row + (hand,))[0] > 0


def mean_at(draws, score, position):
    """Return the mean at the position."""
    if not can_come(draws, position):
        raise Unfit()
    row, standing = position
    return mean_over(numbers_behind(len(standing), draws, row), filled_worths(score, standing))


def numbers_behind(many, draws, row):
    """Return how the chance of row is parted by how many of all turns are A's, on a scale of integers."""
    return by_number(many, weights_behind(many, draws, row))


def mean_over(numbers, worths):
    """Return the mean of worths, each of numbers being parted evenly among the boards with as many cells of A."""
    most = len(numbers) - 1
    sums = by_number(most, worths)
    boards = by_number(most, {board: 1 for board in worths})
    whole = sum(numbers)
    return summed([
        lowest(numbers[k] * sums[k], whole * boards[k]) for k in range(most + 1) if boards[k] > 0
    ])
