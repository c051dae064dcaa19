"""Players: rules by which a hand takes an empty cell."""

from drawnturns.bestcells import best_cells, worst_cells
from drawnturns.errors import Unfit
from drawnturns.kinds import is_cell
from drawnturns.means import can_be_next
from drawnturns.positions import empty_cells
from drawnturns.scores import is_number

# How many items a player has, by its word.
ITEMS = {"best": 1, "worst": 1, "order": 2, "weight": 2, "toward": 2}


def player_error(many, value):
    """Return None if value is a player for many cells, otherwise what is wrong."""
    if not isinstance(value, tuple) or len(value) == 0 or not isinstance(value[0], str):
        return "form"
    word = value[0]
    if word not in ITEMS or len(value) != ITEMS[word]:
        return "form"
    if word == "order" and not is_order(many, value[1]):
        return "cells"
    if word == "weight" and not are_numbers(many, value[1]):
        return "numbers"
    if word == "toward" and not is_cell(many, value[1]):
        return "cell"
    return None


def is_order(many, value):
    """Return whether value is a tuple of all cells, each once."""
    if not isinstance(value, tuple) or not all([is_cell(many, item) for item in value]):
        return False
    return sorted(value) == list(range(many))


def are_numbers(many, value):
    """Return whether value is a tuple of many integers that are not too great."""
    return isinstance(value, tuple) and len(value) == many and all([is_number(item) for item in value])


def choice(draws, score, position, hand, player):
    """Return the cell that player takes for hand at the position."""
    if not can_be_next(draws, position, hand):
        raise Unfit()
    if player[0] == "best":
        return best_cells(draws, score, position, hand)[0]
    if player[0] == "worst":
        return worst_cells(draws, score, position, hand)[0]
    return ruled_cell(empty_cells(position[1]), player)


def ruled_cell(cells, player):
    """Return which of the cells, ascending ones, player takes by its order, its numbers or its cell."""
    word, told = player
    if word == "order":
        return min(cells, key=lambda cell: told.index(cell))
    # Of several ones that serve as well the first one is taken, which is the least one.
    if word == "weight":
        return max(cells, key=lambda cell: told[cell])
    return min(cells, key=lambda cell: abs(cell - told))
