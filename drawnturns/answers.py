"""What a shell answers: each line does something with what the shell holds, and is answered by a text.

A shell holds its cells, draws, score and game under these words, as far as it has them.
"""

from drawnturns.bestcells import weighs
from drawnturns.bounds import MAX_CELLS
from drawnturns.drawing import is_exchangeable, numbers_of, parting_rows
from drawnturns.drawtexts import SIGNS, numbers_text, read_draws, turns_text
from drawnturns.errors import Unfit
from drawnturns.forms import form
from drawnturns.gamelogs import log_text
from drawnturns.games import Game
from drawnturns.gametree import worth_at
from drawnturns.lengths import least_mean_turns, mean_turns, square
from drawnturns.positiontexts import position_text
from drawnturns.scoretexts import read_score
from drawnturns.scoring import is_rising
from drawnturns.stretches import stretches


def fraction_text(fraction):
    """Return the text of the fraction: its number, and what is below if that is not 1."""
    number, below = fraction
    return str(number) if below == 1 else str(number) + "/" + str(below)


def version_text(version):
    """Return the answer to an edit."""
    return "version " + str(version)


def take_cells(held, many):
    """Let the shell have so many cells and nothing else."""
    if not 1 <= many <= MAX_CELLS:
        raise Unfit()
    held.clear()
    held["cells"] = many
    return "cells " + str(many)


def take_draws(held, text):
    """Let the shell have the draws of the text."""
    draws = read_draws(held["cells"], text)
    held["draws"] = draws
    return "exchangeable" if is_exchangeable(held["cells"], draws) else "not exchangeable"


def take_score(held, text):
    """Let the shell have the score of the text."""
    score = read_score(held["cells"], text)
    held["score"] = score
    return "rising" if is_rising(held["cells"], score) else "not rising"


def begin_game(held):
    """Let the shell have a new game."""
    held["game"] = Game(held["cells"], held["draws"], held["score"])
    return "begun"


def draw_hand(held, hand):
    """Let the hand be drawn in the game."""
    return version_text(held["game"].drawn(hand))


def put_cell(held, cell):
    """Let the hand that is drawn take the cell."""
    return version_text(held["game"].put(cell))


def rescore_game(held):
    """Let the shell's score count in the game."""
    return version_text(held["game"].rescore(held["score"]))


def undo_edit(held):
    """Take back the game's last edit."""
    return version_text(held["game"].undo())


def told_position(held):
    """Tell the game's position."""
    return position_text(held["game"].position)


def told_hand(held):
    """Tell who is drawn."""
    hand = held["game"].hand
    return "nobody" if hand is None else SIGNS[hand]


def told_mean(held):
    """Tell the mean."""
    return fraction_text(held["game"].mean())


def told_best(held):
    """Tell the best cells."""
    return numbers_text(held["game"].best())


def told_end(held):
    """Tell the worth of the full board."""
    return str(held["game"].worth())


def told_worth(held):
    """Tell the worth of the game."""
    game = held["game"]
    return fraction_text(worth_at(game.draws, game.score, game.position))


def told_weighs(held, cell):
    """Tell what the cell weighs."""
    game = held["game"]
    return fraction_text(weighs(game.draws, game.score, game.position, cell))


def told_log(held):
    """Tell the edits that stand."""
    return log_text(held["game"].edits)


def told_numbers(held):
    """Tell the chances of all numbers of turns of A."""
    return " ".join([fraction_text(fraction) for fraction in numbers_of(held["cells"], held["draws"])])


def told_parting(held):
    """Tell two rows by which the draws are not exchangeable."""
    rows = parting_rows(held["cells"], held["draws"])
    return "none" if rows is None else " ".join([turns_text(row) for row in rows])


def told_form(held):
    """Tell the form of the score."""
    coefficients = form(held["cells"], held["score"])
    return numbers_text(coefficients) if len(coefficients) > 0 else "0"


def told_stretches(held):
    """Tell the best cells of each stretch."""
    return "; ".join([numbers_text(cells) for _, cells in stretches(held["cells"], held["score"])])


def told_square(held):
    """Tell the square of what all cells weigh."""
    return fraction_text(square(held["cells"], held["score"]))


def told_length(held):
    """Tell the mean of how many turns a game takes."""
    return fraction_text(mean_turns(held["cells"], held["draws"], held["score"]))


def told_least(held):
    """Tell the least mean of how many turns a game takes."""
    return fraction_text(least_mean_turns(held["cells"], held["draws"], held["score"]))


# What answers each word.
ANSWERS = {
    "cells": take_cells, "draws": take_draws, "score": take_score, "play": begin_game,
    "drawn": draw_hand, "put": put_cell, "rescore": rescore_game, "undo": undo_edit,
    "position": told_position, "hand": told_hand, "mean": told_mean, "best": told_best, "end": told_end,
    "worth": told_worth, "weighs": told_weighs, "log": told_log, "numbers": told_numbers, "parting": told_parting,
    "form": told_form, "stretches": told_stretches, "square": told_square, "length": told_length,
    "least": told_least,
}
# What each word needs, in the order in which it is told what is lacking.
NEEDS = {
    "cells": (), "draws": ("cells",), "score": ("cells",), "play": ("draws", "score"),
    "drawn": ("game",), "put": ("game",), "rescore": ("score", "game"), "undo": ("game",),
    "position": ("game",), "hand": ("game",), "mean": ("game",), "best": ("game",), "end": ("game",),
    "worth": ("game",), "weighs": ("game",), "log": ("game",), "numbers": ("draws",), "parting": ("draws",),
    "form": ("score",), "stretches": ("score",), "square": ("score",), "length": ("draws", "score"),
    "least": ("draws", "score"),
}
