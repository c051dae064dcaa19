"""Boards of triangles and hex boards: all small ones, and greater ones that a chooser draws."""

import random
from itertools import product

from reference import triangle_cells

SHAPES = [(rows, columns) for rows in range(1, 13) for columns in range(1, 14 - rows)]


def drawn_triangles(seed, side, number):
    """So many boards of a triangle, with more or fewer cells of A."""
    chooser = random.Random(seed)
    boards = []
    for _ in range(number):
        chance = chooser.choice((0.3, 0.45, 0.5, 0.5, 0.55, 0.7))
        boards.append(tuple(int(chooser.random() < chance) for _ in triangle_cells(side)))
    return boards


def small_triangles():
    """All boards of the sides from 1 to 4, each with its side."""
    return [(side, board) for side in (1, 2, 3, 4) for board in product((0, 1), repeat=side * (side + 1) // 2)]


def small_hexes():
    """All hex boards of up to nine cells, each with its rows and columns."""
    return [
        (rows, columns, board) for rows, columns in SHAPES if rows * columns <= 9
        for board in product((0, 1), repeat=rows * columns)
    ]


def greater_hexes():
    """Some boards of all shapes, with more or fewer cells of A."""
    chooser = random.Random(5)
    found = []
    for rows, columns in SHAPES:
        for _ in range(8):
            chance = chooser.choice((0.3, 0.5, 0.5, 0.7))
            found.append((rows, columns, tuple(int(chooser.random() < chance) for _ in range(rows * columns))))
    return found
