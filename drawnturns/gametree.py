"""The worth of the game, by a look at all that both hands can do."""

from drawnturns.bounds import MAX_TREE
from drawnturns.drawing import weights_behind
from drawnturns.errors import TooMany, Unfit
from drawnturns.means import can_come
from drawnturns.positions import empty_cells, taken
from drawnturns.ratios import lowest
from drawnturns.scoring import filled_worths


def worth_at(draws, score, position):
    """Return the worth of the game at the position."""
    if not can_come(draws, position):
        raise Unfit()
    row, standing = position
    if len(empty_cells(standing)) > MAX_TREE:
        raise TooMany(MAX_TREE)
    weights = weights_behind(len(standing), draws, row)
    weighed = weighed_worth(weights, filled_worths(score, standing), position, {})
    return lowest(weighed, sum(list(weights.values())))


def weighed_worth(weights, worths, position, known):
    """Return the worth at the position times the weights of all rows behind its own; known keeps what was told."""
    if position not in known:
        row, standing = position
        cells = empty_cells(standing)
        if len(cells) == 0:
            known[position] = weights[row] * worths[standing]
        else:
            # The chances of the turns are in the weights of the whole rows, so both hands' worths are just added;
            # what a hand that cannot be next would take is weighed with noughts alone.
            behind = [
                [weighed_worth(weights, worths, taken(position, hand, cell), known) for cell in cells]
                for hand in (0, 1)
            ]
            known[position] = min(behind[0]) + max(behind[1])
    return known[position]
