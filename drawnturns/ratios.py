"""Fractions: pairs of integers in lowest terms, the one below being 1 or more."""

from math import gcd, lcm


def lowest(number, below):
    """Return the fraction of number and below, below being above 0."""
    shared = gcd(number, below)
    return (number // shared, below // shared)


def multiplied(one, other):
    """Return the product of two fractions."""
    return lowest(one[0] * other[0], one[1] * other[1])


def divided(one, other):
    """Return one divided by other, which is above 0."""
    return lowest(one[0] * other[1], one[1] * other[0])


def without(one, other):
    """Return one less other."""
    return lowest(one[0] * other[1] - other[0] * one[1], one[1] * other[1])


def on_one_scale(fractions):
    """Return the list of what the fractions are above one below that serves them all, and this below."""
    below = 1
    for fraction in fractions:
        below = lcm(below, fraction[1])
    return ([fraction[0] * (below // fraction[1]) for fraction in fractions], below)


def summed(fractions):
    """Return the sum of the fractions."""
    numbers, below = on_one_scale(fractions)
    return lowest(sum(numbers), below)
