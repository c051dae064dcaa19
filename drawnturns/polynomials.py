"""Forms: tuples of the coefficients of polynomials, that of 1 first, the last one not being 0."""


def trimmed(coefficients):
    """Return the form of the coefficients, noughts at the end left out."""
    most = len(coefficients)
    while most > 0 and coefficients[most - 1] == 0:
        most -= 1
    return tuple(coefficients[:most])


def less(one, other):
    """Return the form of one less other."""
    most = max(len(one), len(other))
    return trimmed([mine - theirs for mine, theirs in zip(padded(one, most), padded(other, most))])


def padded(form, most):
    """Return the coefficients of the form, with noughts up to so many."""
    return form + (0,) * (most - len(form))


def slope(form):
    """Return the form of the derivative."""
    return tuple([place * form[place] for place in range(1, len(form))])


def raised_value(form, number, below):
    """Return what the form comes to at number / below, times below as often as the form has items but one."""
    total = 0
    power = 1
    for coefficient in reversed(form):
        total = total * number + coefficient * power
        power = power * below
    return total
