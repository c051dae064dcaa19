"""Positions made by taking cells turn by turn, told without the program."""

from itertools import product


def begun(many):
    """The position of many cells in which nothing is taken."""
    return ((), (None,) * many)


def behind(position, hand, cell):
    """The position behind hand's taking cell."""
    row, standing = position
    items = list(standing)
    items[cell] = hand
    return (row + (hand,), tuple(items))


def all_positions(many):
    """The set of all positions of many cells."""
    found = set()
    waiting = [begun(many)]
    while waiting:
        position = waiting.pop()
        if position in found:
            continue
        found.add(position)
        for cell in range(many):
            if position[1][cell] is None:
                waiting.extend([behind(position, hand, cell) for hand in (0, 1)])
    return found


def played(chooser, many, turns):
    """A position of many cells behind so many turns, drawn by chooser."""
    position = begun(many)
    for _ in range(turns):
        empty = [cell for cell in range(many) if position[1][cell] is None]
        position = behind(position, chooser.randrange(2), chooser.choice(empty))
    return position


def all_standings(many):
    """All standings of many cells."""
    return list(product((0, 1, None), repeat=many))


def all_boards(many):
    """All boards of many cells, the ascending ones first."""
    return list(product((0, 1), repeat=many))
