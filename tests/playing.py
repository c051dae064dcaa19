"""What the document says of players, worked out in another way than by the program."""

import random
from fractions import Fraction

from drawn import draws_of_all_kinds, exchangeable_draws
from outcomes import best_cells, can_be_next, empty_in, next_hands, worth_at
from plays import begun, behind
from reference import drawn_scores, is_integer, worth_of

GREAT = 10 ** 6


def player_error(many, value):
    """What the document says of value, word by word."""
    if type(value) is not tuple or not value or type(value[0]) is not str:
        return "form"
    word, items = value[0], value[1:]
    if {"best": 0, "worst": 0, "order": 1, "weight": 1, "toward": 1}.get(word, -1) != len(items):
        return "form"
    if word in ("best", "worst"):
        return None
    if word == "toward":
        return None if is_integer(items[0]) and items[0] in range(many) else "cell"
    told = items[0]
    right = type(told) is tuple and len(told) == many and all(is_integer(item) for item in told)
    if word == "order":
        return None if right and set(told) == set(range(many)) else "cells"
    return None if right and all(-GREAT <= item <= GREAT for item in told) else "numbers"


def worst_cells(draws, score, position, hand):
    """The empty cells behind whose taking by hand the worth of the game, by the tree, is worst for it."""
    worths = {cell: worth_at(draws, score, behind(position, hand, cell)) for cell in empty_in(position)}
    worst = min(worths.values()) if hand else max(worths.values())
    return [cell for cell in sorted(worths) if worths[cell] == worst]


def choice(draws, score, position, hand, player):
    """The cell that player takes for hand, who can be next."""
    assert can_be_next(draws, position, hand)
    if player == ("best",):
        return best_cells(draws, score, position, hand)[0]
    if player == ("worst",):
        return worst_cells(draws, score, position, hand)[0]
    word, told = player
    empty = empty_in(position)
    if word == "order":
        return [cell for cell in told if cell in empty][0]
    ranks = {"weight": lambda cell: (-told[cell], cell), "toward": lambda cell: (abs(cell - told), cell)}
    return sorted(empty, key=ranks[word])[0]


def some_players(chooser, many):
    """Players for many cells of all five kinds, some of them drawn by chooser."""
    order = list(range(many))
    chooser.shuffle(order)
    few = tuple(chooser.randrange(-2, 3) for _ in range(many))
    great = tuple(chooser.choice((-GREAT, 0, GREAT, chooser.randint(-GREAT, GREAT))) for _ in range(many))
    return [("best",), ("worst",), ("order", tuple(order)), ("weight", few), ("weight", great),
            ("toward", chooser.randrange(many))]


def cases(seed, cells, number, kinds=draws_of_all_kinds):
    """Triples of a number of cells, draws of all kinds for it, and a score."""
    chooser = random.Random(seed)
    found = []
    for many in cells:
        scores = drawn_scores(seed + many, many, 2, 40)
        found += [(many, draws, chooser.choice(scores)) for draws in kinds(chooser, many, number)]
    return found


def even_cases(seed, cells):
    """Likewise, with exchangeable draws."""
    return cases(seed, cells, 0, lambda chooser, many, _: exchangeable_draws(chooser, many))


def played_boards(many, draws, score, one, other):
    """The dict of the chances of all boards that come if A takes cells by one and B by other, turn by turn."""
    found = {}
    waiting = [(begun(many), Fraction(1))]
    while waiting:
        position, told = waiting.pop()
        if len(position[0]) == many:
            found[position[1]] = found.get(position[1], 0) + told
            continue
        for hand, share in next_hands(draws, position[0]):
            cell = choice(draws, score, position, hand, one if hand else other)
            waiting.append((behind(position, hand, cell), told * share))
    return found


def outcome(many, draws, score, one, other):
    """The mean worth of the game if A takes cells by one and B by other."""
    return sum(told * worth_of(score, board) for board, told in played_boards(many, draws, score, one, other).items())


def reply(draws, score, player, hand, position):
    """What the other hand gets at best from the position on if hand takes cells by player."""
    if not empty_in(position):
        return Fraction(worth_of(score, position[1]))
    told = Fraction(0)
    for turn, share in next_hands(draws, position[0]):
        if turn == hand:
            cells = [choice(draws, score, position, turn, player)]
        else:
            cells = empty_in(position)
        worths = [reply(draws, score, player, hand, behind(position, turn, cell)) for cell in cells]
        told += share * (min(worths) if hand else max(worths))
    return told


# Hands exchanged.

def turned_draws(draws):
    """The draws that give each row the chance that draws give it with the hands exchanged."""
    word, items = draws[0], draws[1:]
    if word in ("coin", "bag", "urn"):
        return (word, items[1], items[0]) + items[2:]
    if word == "chain":
        first, behind_a, behind_b = items
        return (word, first[::-1], behind_b[::-1], behind_a[::-1])
    if word == "mix":
        return (word, tuple((weight, turned_draws(part)) for weight, part in items[0]))
    if word == "row":
        return (word, tuple(1 - hand for hand in items[0]))
    return (word, tuple(sorted((tuple(1 - hand for hand in row), weight) for row, weight in items[0])))


def with_hands_exchanged(score):
    """The score, without hex boards, that tells of each board what score tells of it with the hands exchanged."""
    if score[0] == "number":
        return score
    if score[0] in ("cell", "y"):
        return ("not", score)
    assert score[0] != "hex"
    return (score[0],) + tuple(with_hands_exchanged(part) for part in score[1:])


def turned_score(score):
    """The score that tells of each board the number opposite to what score tells of it with the hands exchanged."""
    return ("times", ("number", -1), with_hands_exchanged(score))
