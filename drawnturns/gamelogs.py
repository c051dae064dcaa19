"""Logs of games: the edits that stand, as texts and as what leads to a game."""

from drawnturns.bounds import MAX_EDITS
from drawnturns.drawtexts import HANDS, SIGNS
from drawnturns.errors import BadLog, BadScore, BadText, TurnError
from drawnturns.games import Game
from drawnturns.kinds import is_cell, is_pair
from drawnturns.numerals import number_told
from drawnturns.scoretexts import read_score, score_text


def log_text(log):
    """Return the text of the log: a line for each edit."""
    return "".join([edit_text(word, told) + "\n" for word, told in log])


def edit_text(word, told):
    """Return the text of the edit of the word."""
    if word == "drawn":
        return "drawn " + SIGNS[told]
    if word == "put":
        return "put " + str(told)
    return "score " + score_text(told)


def read_log(many, value):
    """Return the log, of edits for many cells, whose text value is."""
    if not isinstance(value, str):
        raise BadText(0)
    lines = value.split("\n")
    if lines[-1] == "":
        lines = lines[:-1]
    log = []
    for place, line in enumerate(lines):
        edit = edit_told(many, line)
        if edit is None or place == MAX_EDITS:
            raise BadText(place)
        log.append(edit)
    return tuple(log)


def edit_told(many, line):
    """Return the edit for many cells whose text line is, or None."""
    word, _, rest = line.partition(" ")
    if word == "drawn" and rest in HANDS:
        return ("drawn", HANDS[rest])
    if word == "put" and is_cell(many, number_told(rest)):
        return ("put", number_told(rest))
    return rescore_told(many, rest) if word == "score" else None


def rescore_told(many, text):
    """Return the edit by which the score for many cells whose text it is counts, or None if there is none."""
    try:
        return ("rescore", read_score(many, text))
    except (BadText, BadScore):
        return None


def game_behind(many, draws, score, value):
    """Return a new game on which the edits of value were done."""
    game = Game(many, draws, score)
    if not isinstance(value, tuple):
        raise BadLog(0)
    for place, edit in enumerate(value):
        if not is_done(game, edit):
            raise BadLog(place)
    return game


def is_done(game, edit):
    """Do the edit on the game; return whether it could be done."""
    if not is_pair(edit):
        return False
    word, told = edit
    try:
        if word == "drawn":
            game.drawn(told)
        elif word == "put":
            game.put(told)
        elif word == "rescore":
            game.rescore(told)
        else:
            return False
    except TurnError:
        return False
    return True
