"""At how many points between 0 and 1 forms come to the same, counted as Sturm did."""

from itertools import accumulate
from math import gcd

from drawnturns.polynomials import less, raised_value, slope, trimmed


def parted(one, other):
    """Return at how many points between 0 and 1 both forms come to the same, or None if they are the same."""
    gap = less(one, other)
    return None if len(gap) == 0 else inner_roots(gap)


def inner_roots(form):
    """Return at how many points between 0 and 1, the ends left out, the form comes to 0; it is not () itself."""
    return roots_between(inner_chain(form), (0, 1), (1, 1))


def inner_chain(form):
    """Return the chain of the form, which is not (), by which its roots between 0 and 1 are counted."""
    return sturm_chain(without_ends(form))


def roots_between(chain, low, high):
    """Return at how many points between the fractions the form of the chain comes to 0; at these it does not."""
    return changes(chain, low) - changes(chain, high)


def is_root(chain, fraction):
    """Return whether the form of the chain comes to 0 at the fraction."""
    return raised_value(chain[0], fraction[0], fraction[1]) == 0


def shared_chain(chain, other):
    """Return the chain of the form that comes to 0 where those of both chains do."""
    one, rest = chain[0], other[0]
    while len(rest) > 0:
        one, rest = rest, turned_rest(one, rest)
    return sturm_chain(one)


def without_ends(form):
    """Return the form divided by p and by 1 - p as often as it can be: it is 0 neither at 0 nor at 1."""
    while form[0] == 0:
        form = form[1:]
    while sum(form) == 0:
        form = tuple(accumulate(form))[:-1]
    return form


def sturm_chain(form):
    """Return the list of the form, its slope, and the rests of Euclid's division, each turned to its opposite."""
    chain = [form]
    following = slope(form)
    while len(following) > 0:
        chain.append(following)
        following = turned_rest(chain[-2], following)
    return chain


def turned_rest(one, other):
    """Return the opposite of the rest of one divided by other, times a number above 0."""
    rest = one
    while len(rest) >= len(other):
        # The sign of what rest is multiplied by must not be below 0, or the signs of the chain were others.
        factor = rest[-1] if other[-1] > 0 else -rest[-1]
        raised = (0,) * (len(rest) - len(other)) + other
        rest = trimmed([abs(other[-1]) * mine - factor * theirs for mine, theirs in zip(rest, raised)])
    shared = 0
    for coefficient in rest:
        shared = gcd(shared, coefficient)
    return tuple([-coefficient // shared for coefficient in rest])


def changes(chain, fraction):
    """Return how often the sign changes along the chain at the fraction, noughts left out."""
    values = [raised_value(form, fraction[0], fraction[1]) for form in chain]
    signs = [value > 0 for value in values if value != 0]
    return sum([1 for place in range(1, len(signs)) if signs[place] != signs[place - 1]])
