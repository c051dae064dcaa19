"""When nothing that may still be taken changes what a game is worth."""

from drawnturns.scoring import filled_worths


def is_decided(score, standing):
    """Return whether all boards that the standing can become have one worth."""
    return are_alike(list(filled_worths(score, standing).values()))


def are_alike(worths):
    """Return whether all worths, one at least, are the same."""
    return min(worths) == max(worths)
