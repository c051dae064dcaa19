"""Which cells are best at which chances of a coin, from 0 on to 1."""

from drawnturns.forms import best_of, weight_forms
from drawnturns.polynomials import less
from drawnturns.ratios import lowest
from drawnturns.roots import inner_chain, is_root, roots_between, shared_chain

ENDS = ((0, 1), (1, 1))


def stretches(many, score):
    """Return the tuple of the pairs (fraction, cells), one for each stretch."""
    weights = weight_forms(many, score)
    found = []
    for fraction in fractions_between(gap_chains(weights)):
        cells = best_of(weights, fraction)
        if len(found) == 0 or found[-1][1] != cells:
            found.append((fraction, cells))
    return tuple(found)


def gap_chains(forms):
    """Return the list of the chains of what each two unlike forms differ by."""
    gaps = {}
    for place, form in enumerate(forms):
        for other in forms[:place]:
            gaps[less(form, other)] = True
    return [inner_chain(gap) for gap in gaps if len(gap) > 0]


def fractions_between(chains):
    """Return the ascending list of fractions, no roots, that part each root of the chains from the others."""
    found = []
    waiting = [(ENDS[0], ENDS[1], chains)]
    while waiting:
        low, high, near = waiting.pop()
        if is_parted(low, high, near):
            found.append(high)
        else:
            middle = free_middle(low, high, near)
            waiting.append((middle, high, rooted(near, middle, high)))
            waiting.append((low, middle, rooted(near, low, middle)))
    # The last one is the end at 1.
    return found[:-1]


def rooted(chains, low, high):
    """Return the list of the chains that have a root between both fractions."""
    return [chain for chain in chains if roots_between(chain, low, high) > 0]


def is_parted(low, high, near):
    """Return whether low and high need no fraction between them, near being the chains with a root there."""
    if (low, high) == ENDS:
        return False
    # No best cells are told at the ends, so what lies ahead of the first root is parted from the end, too.
    return len(near) == 0 or (low != ENDS[0] and high != ENDS[1] and have_one_root(near, low, high))


def have_one_root(chains, low, high):
    """Return whether all chains have one root between the fractions, and the same one."""
    for chain in chains:
        if roots_between(chain, low, high) > 1:
            return False
    for chain in chains[1:]:
        if roots_between(shared_chain(chains[0], chain), low, high) == 0:
            return False
    return True


def free_middle(low, high, chains):
    """Return a fraction between both at which no chain has a root."""
    middle = halfway(low, high)
    while any([is_root(chain, middle) for chain in chains]):
        middle = halfway(low, middle)
    return middle


def halfway(one, other):
    """Return the fraction half way between two."""
    return lowest(one[0] * other[1] + other[0] * one[1], 2 * one[1] * other[1])
