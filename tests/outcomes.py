"""Means and worths of the game as the document tells them, in fractions of Python's own."""

from fractions import Fraction
from itertools import product

from drawn import all_rows, row_chance, turn_chance
from plays import begun, behind
from reference import worth_of


def empty_in(position):
    return [cell for cell, item in enumerate(position[1]) if item is None]


def boards_of(standing):
    """All boards that have what standing has."""
    return list(product(*[(0, 1) if item is None else (item,) for item in standing]))


def can_come(draws, position):
    return row_chance(draws, position[0]) > 0


def can_be_next(draws, position, hand):
    """Whether hand can have the next turn at the position."""
    return bool(empty_in(position)) and row_chance(draws, position[0] + (hand,)) > 0


def mean_at(draws, score, position):
    """The mean at a position that can come: a sum over all rows of further turns and all boards."""
    row, standing = position
    worths = {}
    for board in boards_of(standing):
        worths.setdefault(board.count(1) - standing.count(1), []).append(worth_of(score, board))
    told = Fraction(0)
    for rest in all_rows(len(empty_in(position))):
        share = row_chance(draws, row + rest)
        if share:
            told += share * Fraction(sum(worths[sum(rest)]), len(worths[sum(rest)]))
    return told / row_chance(draws, row)


def worth_at(draws, score, position, known=None):
    """The worth of the game at a position that can come: a tree of its own, turn by turn."""
    known = {} if known is None else known
    if position not in known:
        known[position] = worth_by_turns(draws, score, position, known)
    return known[position]


def worth_by_turns(draws, score, position, known):
    empty = empty_in(position)
    if not empty:
        return Fraction(worth_of(score, position[1]))
    of_a = turn_chance(draws, position[0])
    told = Fraction(0)
    if of_a > 0:
        told += of_a * max(worth_at(draws, score, behind(position, 1, cell), known) for cell in empty)
    if of_a < 1:
        told += (1 - of_a) * min(worth_at(draws, score, behind(position, 0, cell), known) for cell in empty)
    return told


def best_cells(draws, score, position, hand):
    """The empty cells behind whose taking by hand, who can be next, the worth of the game is best for it."""
    worths = {cell: worth_at(draws, score, behind(position, hand, cell)) for cell in empty_in(position)}
    best = max(worths.values()) if hand else min(worths.values())
    return tuple(cell for cell in sorted(worths) if worths[cell] == best)


def weight_at(draws, score, position, cell):
    """The mean behind A's taking the cell less that behind B's."""
    of_a, of_b = [mean_at(draws, score, behind(position, hand, cell)) for hand in (1, 0)]
    return of_a - of_b


def best_by_means(draws, score, position, hand):
    """The empty cells behind whose taking by hand, who can be next, the mean is best for it."""
    means = {cell: mean_at(draws, score, behind(position, hand, cell)) for cell in empty_in(position)}
    best = max(means.values()) if hand else min(means.values())
    return tuple(cell for cell in sorted(means) if means[cell] == best)


def is_decided(score, standing):
    """Whether all boards that the standing can become have one worth."""
    return len({worth_of(score, board) for board in boards_of(standing)}) == 1


def next_hands(draws, row):
    """The pairs of a hand that can be next behind row, and its chance."""
    of_a = turn_chance(draws, row)
    return [(hand, share) for hand, share in ((1, of_a), (0, 1 - of_a)) if share]


def lengths_of(many, draws, score, best):
    """The dict of the chances of all lengths of games in which best(draws, score, position, hand) tells best cells."""
    found = {}
    waiting = [(begun(many), Fraction(1))]
    while waiting:
        position, told = waiting.pop()
        if is_decided(score, position[1]):
            found[len(position[0])] = found.get(len(position[0]), 0) + told
            continue
        hands = next_hands(draws, position[0])
        cells = {best(draws, score, position, hand) for hand, _ in hands}
        # Where both hands can be next both have the same best cells.
        assert len(cells) == 1, (draws, score, position)
        cell = cells.pop()[0]
        waiting += [(behind(position, hand, cell), told * share) for hand, share in hands]
    return found


def means_by_rules(draws, score, position, known=None):
    """The set of the means of further turns until the game is decided, one for each rule."""
    known = {} if known is None else known
    if position in known:
        return known[position]
    found = set()
    if is_decided(score, position[1]):
        found.add(Fraction(0))
    else:
        for cell in empty_in(position):
            sums = {Fraction(1)}
            for hand, share in next_hands(draws, position[0]):
                told = means_by_rules(draws, score, behind(position, hand, cell), known)
                sums = {one + share * other for one in sums for other in told}
            found |= sums
    known[position] = found
    return found


def opposite(position):
    """The position with 1 and 0 exchanged."""
    row, standing = position
    return (tuple(1 - hand for hand in row), tuple(item if item is None else 1 - item for item in standing))
