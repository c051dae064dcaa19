"""Sums by how many of the hands are A's."""


def by_number(most, table):
    """Return the list of the sums of what table tells of tuples of hands, by their numbers of A's, up to most."""
    sums = [0] * (most + 1)
    for hands, told in table.items():
        sums[sum(hands)] += told
    return sums
