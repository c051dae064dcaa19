"""Whole games between players, and what a hand gets at best against a player."""

from drawnturns.bounds import MAX_TREE
from drawnturns.drawing import weights_behind
from drawnturns.errors import TooMany
from drawnturns.means import can_be_next, position_of
from drawnturns.players import choice
from drawnturns.positions import empty_cells, taken
from drawnturns.ratios import lowest
from drawnturns.scoring import all_worths


def outcome(many, draws, score, one, other):
    """Return the mean worth of the game if A takes cells by one and B by other."""
    weights = played_weights(many, draws, score, one, other)
    worths = all_worths(many, score)
    total = sum([weight * worths[board] for board, weight in weights.items()])
    return lowest(total, sum(list(weights.values())))


def played_weights(many, draws, score, one, other):
    """Return the dict of the weights, above 0, of all boards that come if A takes cells by one and B by other."""
    if many > MAX_TREE:
        raise TooMany(MAX_TREE)
    chances = weights_behind(many, draws, ())
    weights = {}
    waiting = [position_of(many)]
    while waiting:
        position = waiting.pop()
        row, standing = position
        if len(row) == many:
            weights[standing] = weights.get(standing, 0) + chances[row]
        for hand, player in ((0, other), (1, one)):
            waiting.extend(behind_turn(draws, score, position, hand, player))
    return weights


def behind_turn(draws, score, position, hand, player):
    """Return the list of the positions behind hand's turn, if it may be next: by player, or any for None."""
    if not can_be_next(draws, position, hand):
        return []
    if player is None:
        cells = empty_cells(position[1])
    else:
        cells = (choice(draws, score, position, hand, player),)
    return [taken(position, hand, cell) for cell in cells]


def reply(many, draws, score, player, hand):
    """Return the mean worth that the other hand can bring about, if hand takes cells by player."""
    if many > MAX_TREE:
        raise TooMany(MAX_TREE)
    turns = turns_against(many, draws, score, player, hand)
    weights = weights_behind(many, draws, ())
    worths = all_worths(many, score)
    told = {}
    # Positions stand behind those that lead to them, so from the last one on all that is needed is told.
    for position in reversed(list(turns)):
        row, standing = position
        if len(row) == many:
            told[position] = weights[row] * worths[standing]
        else:
            told[position] = sum([picked([told[after] for after in behind], hand) for behind in turns[position]])
    return lowest(told[position_of(many)], sum(list(weights.values())))


def turns_against(many, draws, score, player, hand):
    """Return the dict of all positions that can come, in the order of turns, with those behind B's turn and A's."""
    turns = {}
    waiting = [position_of(many)]
    done = 0
    while done < len(waiting):
        position = waiting[done]
        done += 1
        if position not in turns:
            players = (None, player) if hand == 1 else (player, None)
            turns[position] = [behind_turn(draws, score, position, turn, players[turn]) for turn in (0, 1)]
            waiting.extend(turns[position][0] + turns[position][1])
    return turns


def picked(worths, hand):
    """Return which of the worths, each times its weight, the hand other than hand would pick; 0 if there are none."""
    # Behind a turn of hand itself there is one alone.
    if len(worths) == 0:
        return 0
    return min(worths) if hand == 1 else max(worths)
