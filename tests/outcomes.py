"""Means and worths of the game as the document tells them, in fractions of Python's own."""

from fractions import Fraction
from itertools import product

from drawn import all_rows, row_chance, turn_chance
from plays import behind
from reference import worth_of


def empty_in(position):
    return [cell for cell, item in enumerate(position[1]) if item is None]


def boards_of(standing):
    """All boards that have what standing has."""
    return list(product(*[(0, 1) if item is None else (item,) for item in standing]))


def can_come(draws, position):
    return row_chance(draws, position[0]) > 0


def can_be_next(draws, position, hand):
    """Whether hand can have the next turn at the position."""
    return bool(empty_in(position)) and row_chance(draws, position[0] + (hand,)) > 0


def mean_at(draws, score, position):
    """The mean at a position that can come: a sum over all rows of further turns and all boards."""
    row, standing = position
    worths = {}
    for board in boards_of(standing):
        worths.setdefault(board.count(1) - standing.count(1), []).append(worth_of(score, board))
    told = Fraction(0)
    for rest in all_rows(len(empty_in(position))):
        share = row_chance(draws, row + rest)
        if share:
            told += share * Fraction(sum(worths[sum(rest)]), len(worths[sum(rest)]))
    return told / row_chance(draws, row)


def worth_at(draws, score, position, known=None):
    """The worth of the game at a position that can come: a tree of its own, turn by turn."""
    known = {} if known is None else known
    if position not in known:
        known[position] = worth_by_turns(draws, score, position, known)
    return known[position]


def worth_by_turns(draws, score, position, known):
    empty = empty_in(position)
    if not empty:
        return Fraction(worth_of(score, position[1]))
    of_a = turn_chance(draws, position[0])
    told = Fraction(0)
    if of_a > 0:
        told += of_a * max(worth_at(draws, score, behind(position, 1, cell), known) for cell in empty)
    if of_a < 1:
        told += (1 - of_a) * min(worth_at(draws, score, behind(position, 0, cell), known) for cell in empty)
    return told


def best_cells(draws, score, position, hand):
    """The empty cells behind whose taking by hand, who can be next, the worth of the game is best for it."""
    worths = {cell: worth_at(draws, score, behind(position, hand, cell)) for cell in empty_in(position)}
    best = max(worths.values()) if hand else min(worths.values())
    return tuple(cell for cell in sorted(worths) if worths[cell] == best)


def weight_at(draws, score, position, cell):
    """The mean behind A's taking the cell less that behind B's."""
    of_a, of_b = [mean_at(draws, score, behind(position, hand, cell)) for hand in (1, 0)]
    return of_a - of_b


def opposite(position):
    """The position with 1 and 0 exchanged."""
    row, standing = position
    return (tuple(1 - hand for hand in row), tuple(item if item is None else 1 - item for item in standing))
