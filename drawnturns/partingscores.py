"""Scores by which the worth of the game is not the mean, for draws that are not exchangeable."""

from drawnturns.bounds import MAX_TREE
from drawnturns.drawing import is_exchangeable
from drawnturns.errors import TooMany
from drawnturns.gametree import worth_at
from drawnturns.means import mean_at, position_of
from drawnturns.positions import fillings
from drawnturns.scores import score_error


def parting_score(many, draws):
    """Return a score by which worth and mean are unlike at the beginning, or None if there is none."""
    if is_exchangeable(many, draws):
        return None
    if many > MAX_TREE:
        raise TooMany(MAX_TREE)
    scores = [lot_score(lot) for lot in fillings((None,) * many)]
    at = 0
    # One of them parts: both hands take the cells by their numbers, so if none did, the chance that A has all
    # turns at some places would hang on how many these are alone, and the draws would be exchangeable.
    while not is_parting(many, draws, scores[at]):
        at += 1
    return scores[at]


def parting_error(many, draws, value):
    """Return None if value is a score by which worth and mean are unlike, otherwise what is wrong."""
    if many > MAX_TREE:
        raise TooMany(MAX_TREE)
    error = score_error(many, value)
    if error is not None:
        return ("score", error)
    return None if is_parting(many, draws, value) else "alike"


def is_parting(many, draws, score):
    """Return whether worth and mean are unlike at the beginning."""
    beginning = position_of(many)
    return worth_at(draws, score, beginning) != mean_at(draws, score, beginning)


def lot_score(lot):
    """Return the score of 2, 4, 8 and so on for the cells, and 1 more for all that the lot has 1 for."""
    cells = [("cell", cell) for cell in range(len(lot))]
    parts = [("times", ("number", 2 << cell), cells[cell]) for cell in range(len(lot))]
    if sum(lot) > 0:
        parts.append(("least", *[cells[cell] for cell in range(len(lot)) if lot[cell] == 1]))
    return ("sum", *parts)
