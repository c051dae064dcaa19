"""Draws: in which way it is drawn whose the turns are, as a tuple that begins with a word."""

from drawnturns.bounds import MAX_MIXED, MAX_NUMBER
from drawnturns.kinds import is_hand, is_integer, is_pair


def draws_error(many, value):
    """Return None if value are draws for many cells, otherwise what is wrong."""
    if not isinstance(value, tuple) or len(value) == 0 or not isinstance(value[0], str):
        return "form"
    word = value[0]
    if word in ("coin", "bag", "urn", "chain"):
        return numbers_error(many, value)
    if word == "row":
        return None if len(value) == 2 and is_whole_row(many, value[1]) else "row"
    if word == "mix":
        return mix_error(many, value)
    if word == "table":
        return table_error(many, value)
    return "kind"


def numbers_error(many, value):
    """Return what is wrong with a coin, a bag, an urn, a chain, or None."""
    word, *items = value
    if word == "chain":
        return None if len(items) == 3 and all([is_counts(item) for item in items]) else "numbers"
    if word == "urn":
        return None if len(items) == 3 and is_counts(value[1:3]) and is_count(value[3]) else "numbers"
    if not is_counts(value[1:]):
        return "numbers"
    return "bag" if word == "bag" and sum(items) < many else None


def mix_error(many, value):
    """Return what is wrong with a mix, or None."""
    if len(value) != 2 or not isinstance(value[1], tuple) or not 1 <= len(value[1]) <= MAX_MIXED:
        return "parts"
    for place, part in enumerate(value[1]):
        error = part_error(many, part)
        if error is not None:
            return ("part", place, error)
    return None


def part_error(many, part):
    """Return what is wrong with a part of a mix, or None."""
    if not is_pair(part):
        return "form"
    weight, draws = part
    if not is_weight(weight):
        return "weight"
    if isinstance(draws, tuple) and draws[:1] == ("mix",):
        return "mix"
    return draws_error(many, draws)


def table_error(many, value):
    """Return what is wrong with a table, or None."""
    if len(value) != 2 or not isinstance(value[1], tuple) or len(value[1]) == 0:
        return "rows"
    pairs = value[1]
    for place, pair in enumerate(pairs):
        if not is_pair(pair) or not is_whole_row(many, pair[0]):
            return ("row", place)
    for place in range(1, len(pairs)):
        if pairs[place][0] <= pairs[place - 1][0]:
            return ("order", place)
    for place, pair in enumerate(pairs):
        if not is_weight(pair[1]):
            return ("weight", place)
    return None


def is_count(value):
    """Return whether value is an integer from 0 to MAX_NUMBER."""
    return is_integer(value) and 0 <= value <= MAX_NUMBER


def is_weight(value):
    """Return whether value is an integer from 1 to MAX_NUMBER."""
    return is_count(value) and value > 0


def is_counts(value):
    """Return whether value is a pair of counts, not both 0."""
    return is_pair(value) and all([is_count(item) for item in value]) and sum(value) > 0


def is_whole_row(many, value):
    """Return whether value is a tuple of many items, each the integer 0 or 1."""
    return isinstance(value, tuple) and len(value) == many and all([is_hand(item) for item in value])
