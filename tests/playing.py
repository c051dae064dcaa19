"""What the document says of players, worked out in another way than by the program."""

from outcomes import behind, best_cells, can_be_next, empty_in, worth_at
from reference import is_integer

GREAT = 10 ** 6


def player_error(many, value):
    """What the document says of value, word by word."""
    if type(value) is not tuple or not value or type(value[0]) is not str:
        return "form"
    word, items = value[0], value[1:]
    if {"best": 0, "worst": 0, "order": 1, "weight": 1, "toward": 1}.get(word, -1) != len(items):
        return "form"
    if word in ("best", "worst"):
        return None
    if word == "toward":
        return None if is_integer(items[0]) and items[0] in range(many) else "cell"
    told = items[0]
    right = type(told) is tuple and len(told) == many and all(is_integer(item) for item in told)
    if word == "order":
        return None if right and set(told) == set(range(many)) else "cells"
    return None if right and all(-GREAT <= item <= GREAT for item in told) else "numbers"


def worst_cells(draws, score, position, hand):
    """The empty cells behind whose taking by hand the worth of the game, by the tree, is worst for it."""
    worths = {cell: worth_at(draws, score, behind(position, hand, cell)) for cell in empty_in(position)}
    worst = min(worths.values()) if hand else max(worths.values())
    return [cell for cell in sorted(worths) if worths[cell] == worst]


def choice(draws, score, position, hand, player):
    """The cell that player takes for hand, who can be next."""
    assert can_be_next(draws, position, hand)
    if player == ("best",):
        return best_cells(draws, score, position, hand)[0]
    if player == ("worst",):
        return worst_cells(draws, score, position, hand)[0]
    word, told = player
    empty = empty_in(position)
    if word == "order":
        return [cell for cell in told if cell in empty][0]
    ranks = {"weight": lambda cell: (-told[cell], cell), "toward": lambda cell: (abs(cell - told), cell)}
    return sorted(empty, key=ranks[word])[0]


def some_players(chooser, many):
    """Players for many cells of all five kinds, some of them drawn by chooser."""
    order = list(range(many))
    chooser.shuffle(order)
    few = tuple(chooser.randrange(-2, 3) for _ in range(many))
    great = tuple(chooser.choice((-GREAT, 0, GREAT, chooser.randint(-GREAT, GREAT))) for _ in range(many))
    return [("best",), ("worst",), ("order", tuple(order)), ("weight", few), ("weight", great),
            ("toward", chooser.randrange(many))]
