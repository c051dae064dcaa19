"""Polynomials as tuples of coefficients, and counts of their roots in another way than the program's."""

from fractions import Fraction

from plays import all_boards
from reference import worth_of


def cut(coefficients):
    """The coefficients without noughts at the end."""
    found = list(coefficients)
    while found and found[-1] == 0:
        found.pop()
    return tuple(found)


def plus(one, other):
    most = max(len(one), len(other))
    longer = [tuple(form) + (0,) * (most - len(form)) for form in (one, other)]
    return cut([a + b for a, b in zip(*longer)])


def times(one, other):
    found = [0] * (len(one) + len(other))
    for i, a in enumerate(one):
        for j, b in enumerate(other):
            found[i + j] += a * b
    return cut(found)


def minus(one, other):
    return plus(one, times((-1,), other))


def value_at(form, point):
    """What the form comes to at a Fraction."""
    return sum((coefficient * point ** power for power, coefficient in enumerate(form)), Fraction(0))


def board_form(board):
    """The form of the chance of a board, p for each cell of A and 1 - p for each one of B."""
    found = (1,)
    for hand in board:
        found = times(found, (0, 1) if hand else (1, -1))
    return found


def form_of(many, score):
    """The form of the mean: a sum over all boards."""
    found = ()
    for board in all_boards(many):
        found = plus(found, times((worth_of(score, board),), board_form(board)))
    return found


def cell_form_of(many, score, cell):
    """The form of what the cell weighs: a sum over all ways in which the other cells can be."""
    found = ()
    for board in all_boards(many - 1):
        worths = [worth_of(score, board[:cell] + (hand,) + board[cell:]) for hand in (0, 1)]
        found = plus(found, times((worths[1] - worths[0],), board_form(board)))
    return found


# How many roots lie between 0 and 1, by Descartes' rule of signs, halving again and again.

def quotient_and_rest(one, other):
    rest, found = [Fraction(a) for a in one], [Fraction(0)] * max(1, len(one) - len(other) + 1)
    while len(rest) >= len(other):
        factor = rest[-1] / other[-1]
        found[len(rest) - len(other)] = factor
        rest = list(minus(rest, times((0,) * (len(rest) - len(other)) + (factor,), other)))
    return cut(found), tuple(rest)


def simple(form):
    """A form with the same roots, each once."""
    one, other = form, cut([power * a for power, a in enumerate(form)][1:])
    while other:
        one, other = other, quotient_and_rest(one, other)[1]
    return quotient_and_rest(form, one)[0]


def moved(form, by, scale):
    """The form with by + scale * p in the place of p."""
    found = ()
    for coefficient in reversed(form):
        found = plus(times(found, (by, scale)), (coefficient,))
    return found


def sign_changes(form):
    """How often the sign changes from one coefficient to the next, for 0 < p < 1 made 0 < p."""
    turned = moved(tuple(reversed(form)), 1, 1)
    signs = [a > 0 for a in turned if a]
    return sum(one != other for one, other in zip(signs, signs[1:]))


def count_roots(form):
    """At how many points between 0 and 1 the form, which is not (), comes to 0."""
    return count_simple(simple(form))


def count_simple(form):
    while form[0] == 0:
        form = form[1:]
    while len(form) > 1 and sum(form) == 0:
        form = quotient_and_rest(form, (-1, 1))[0]
    changes = sign_changes(form)
    if changes < 2:
        return changes
    half = Fraction(1, 2)
    at_half = value_at(form, half) == 0
    return at_half + count_simple(moved(form, 0, half)) + count_simple(moved(form, half, half))


# Where the roots lie, and which of several forms is the greatest between.

def root_spots(form, width, low=Fraction(0), high=Fraction(1)):
    """Pairs (low, high), narrower than width, with one root each: all roots of a simple form between low and high."""
    inside = moved(form, low, high - low)
    while inside[0] == 0:
        inside = inside[1:]
    while len(inside) > 1 and sum(inside) == 0:
        inside = quotient_and_rest(inside, (-1, 1))[0]
    changes = sign_changes(inside)
    if changes == 0:
        return []
    if changes == 1:
        return [tuple(low + part * (high - low) for part in narrowed(inside, width))]
    middle = (low + high) / 2
    found = [(middle, middle)] if value_at(form, middle) == 0 else []
    return root_spots(form, width, low, middle) + found + root_spots(form, width, middle, high)


def narrowed(form, width):
    """A pair (low, high), narrower than width, around the one root that a simple form has between 0 and 1."""
    low, high = Fraction(0), Fraction(1)
    while high - low >= width:
        middle = (low + high) / 2
        told = value_at(form, middle)
        if told == 0:
            return (middle, middle)
        if (told > 0) == (form[0] > 0):
            low = middle
        else:
            high = middle
    return (low, high)


def meeting_spots(forms, width=Fraction(1, 2 ** 70)):
    """Where some two unlike forms come to the same: spots in their order, those that overlap made one."""
    gaps = {minus(one, other) for one in forms for other in forms}
    spots = sorted(spot for gap in gaps if gap for spot in root_spots(simple(gap), width))
    found = []
    for low, high in spots:
        if found and low <= found[-1][1]:
            found[-1] = (found[-1][0], max(high, found[-1][1]))
        else:
            found.append((low, high))
    return found


def greatest_cells(forms, point):
    """The places of those of the forms that are the greatest at a Fraction."""
    values = [value_at(form, point) for form in forms]
    return tuple(place for place, value in enumerate(values) if value == max(values))


def greatest_in_turn(forms):
    """Which forms are the greatest between 0 and 1, in turn, but for single points."""
    ends = [Fraction(0)] + [end for spot in meeting_spots(forms) for end in spot] + [Fraction(1)]
    found = []
    for low, high in zip(ends[::2], ends[1::2]):
        cells = greatest_cells(forms, (low + high) / 2)
        if found[-1:] != [cells]:
            found.append(cells)
    return found
