"""The chances of rows of turns, by the way in which they are drawn."""

from drawnturns.errors import Unfit
from drawnturns.positions import fillings
from drawnturns.ratios import divided, lowest, multiplied, on_one_scale, summed
from drawnturns.tallies import by_number

# How many shares the hand that had a turn gets by it; with an urn its draws tell.
CHANGES = {"coin": 0, "bag": -1}


def chance(many, draws, row):
    """Return the chance that the first turns are those of row."""
    return chances_of(draws, [row])[0]


def next_chance(many, draws, row):
    """Return the chance that the turn behind row is A's, if the first turns were those of row."""
    ahead = chance(many, draws, row)
    if len(row) == many or ahead[0] == 0:
        raise Unfit()
    return divided(chance(many, draws, row + (1,)), ahead)


def numbers_of(many, draws):
    """Return the tuple of the chances that just 0, 1, .., many of all turns are A's."""
    sums = by_number(many, weights_behind(many, draws, ()))
    return tuple([lowest(number, sum(sums)) for number in sums])


def is_exchangeable(many, draws):
    """Return whether any two rows with equally many turns of A have the same chance."""
    return parting_rows(many, draws) is None


def parting_rows(many, draws):
    """Return the least pair of rows with equally many turns of A and unlike chances, or None."""
    rows = all_rows(many)
    firsts = {}
    found = []
    for row, told in zip(rows, chances_of(draws, rows)):
        # If any two rows of a number are unlike, then its first row and some other one are.
        first, first_told = firsts.setdefault(sum(row), (row, told))
        if told != first_told:
            found.append((first, row))
    return min(found, default=None)


def all_rows(turns):
    """Return the ascending tuple of all rows of so many turns."""
    # A row is a tuple of hands, as a board is.
    return fillings((None,) * turns)


def weights_behind(many, draws, row):
    """Return the dict of the chances of all rows of many turns that begin with row, on a scale of integers."""
    rows = [row + rest for rest in all_rows(many - len(row))]
    numbers, _ = on_one_scale(chances_of(draws, rows))
    return {whole: number for whole, number in zip(rows, numbers)}


def chances_of(draws, rows):
    """Return the list of the chances that the first turns are those of each row, rows being of one length."""
    word = draws[0]
    if word == "mix":
        return mixed_chances(draws[1], rows)
    if word == "table":
        return picked_chances(draws[1], rows)
    if word == "row":
        return picked_chances(((draws[1], 1),), rows)
    return [turned_chance(draws, row) for row in rows]


def mixed_chances(parts, rows):
    """Return the chances of the rows if one of the pairs (weight, draws) is picked by its weight."""
    whole = sum([weight for weight, _ in parts])
    shares = [
        [multiplied((weight, whole), share) for share in chances_of(draws, rows)] for weight, draws in parts
    ]
    return [summed(told) for told in zip(*shares)]


def picked_chances(pairs, rows):
    """Return the chances of the rows if one of the pairs (row, weight) is picked by its weight."""
    whole = sum([weight for _, weight in pairs])
    turns = len(rows[0])
    weights = {}
    for row, weight in pairs:
        weights[row[:turns]] = weights.get(row[:turns], 0) + weight
    return [lowest(weights.get(row, 0), whole) for row in rows]


def turned_chance(draws, row):
    """Return the chance of the row if each turn is drawn by what came ahead of it."""
    number, below = 1, 1
    for turn, hand in enumerate(row):
        of_a, of_both = shares_behind(draws, row[:turn])
        number = number * (of_a if hand == 1 else of_both - of_a)
        below = below * of_both
    return lowest(number, below)


def shares_behind(draws, row):
    """Return how many of how many shares in the next turn are A's, by a coin, a bag, an urn or a chain."""
    word = draws[0]
    if word == "chain":
        # The pair for behind A's turns stands ahead of the one for behind B's.
        pair = draws[1] if len(row) == 0 else draws[3 - row[-1]]
        return (pair[0], sum(pair))
    change = draws[3] if word == "urn" else CHANGES[word]
    return (draws[1] + change * sum(row), draws[1] + draws[2] + change * len(row))
