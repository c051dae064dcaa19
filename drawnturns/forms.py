"""The worth of the game, and what cells weigh, for all chances of a coin at once."""

from math import comb, gcd

from drawnturns.errors import Unfit
from drawnturns.kinds import is_integer, is_pair
from drawnturns.polynomials import raised_value, trimmed
from drawnturns.ratios import lowest, on_one_scale
from drawnturns.scoring import all_worths, gains
from drawnturns.tallies import by_number


def form(many, score):
    """Return the form of the worth of the game."""
    return coin_form(by_number(many, all_worths(many, score)))


def cell_form(many, score, cell):
    """Return the form of what cell weighs."""
    return weight_form(all_worths(many, score), many, cell)


def weight_form(worths, many, cell):
    """Return the form of what cell weighs, by the worths of all boards."""
    return coin_form(by_number(many - 1, gains(worths, cell)))


def coin_form(sums):
    """Return the form of the mean of what sums tells of the boards with 0, 1, .. cells of A, the last one all."""
    most = len(sums) - 1
    coefficients = [0] * (most + 1)
    for of_a, told in enumerate(sums):
        # (1 - p) is raised to the number of B's cells, and multiplied out.
        for more in range(most - of_a + 1):
            sign = -1 if more & 1 else 1
            coefficients[of_a + more] += sign * comb(most - of_a, more) * told
    return trimmed(coefficients)


def form_at(coefficients, fraction):
    """Return the fraction that the form comes to at the fraction."""
    number, below = fraction
    power = 1
    for _ in coefficients[1:]:
        power = power * below
    return lowest(raised_value(coefficients, number, below), power)


def best_at(many, score, fraction):
    """Return the ascending tuple of the best cells at the beginning, fraction being A's chance."""
    if not is_inner_fraction(fraction):
        raise Unfit()
    return best_of(weight_forms(many, score), fraction)


def weight_forms(many, score):
    """Return the list of the forms of what each cell weighs."""
    worths = all_worths(many, score)
    return [weight_form(worths, many, cell) for cell in range(many)]


def best_of(forms, fraction):
    """Return the ascending tuple of the cells whose forms are the greatest at the fraction."""
    numbers, _ = on_one_scale([form_at(told, fraction) for told in forms])
    most = max(numbers)
    return tuple([cell for cell, number in enumerate(numbers) if number == most])


def is_inner_fraction(value):
    """Return whether value is a fraction above 0 and below 1."""
    if not is_pair(value) or not all([is_integer(item) for item in value]):
        return False
    return 0 < value[0] < value[1] and gcd(value[0], value[1]) == 1
