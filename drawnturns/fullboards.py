"""With which chances full boards come."""

from drawnturns.drawing import chance, is_exchangeable
from drawnturns.errors import Unfit
from drawnturns.playouts import played_weights
from drawnturns.ratios import lowest


def weight_of(many, draws, board):
    """Return the weight of the board."""
    if not is_exchangeable(many, draws):
        raise Unfit()
    # There are as many rows with as many turns of A as boards with as many cells of A, and all have one chance.
    return chance(many, draws, board)


def full_chances(many, draws, score, one, other):
    """Return the ascending tuple of the pairs (board, chance) of all boards that come if A plays by one, B by other."""
    weights = played_weights(many, draws, score, one, other)
    whole = sum(list(weights.values()))
    return tuple([(board, lowest(weights[board], whole)) for board in sorted(list(weights))])
