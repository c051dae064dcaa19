"""Texts of draws: the word, a blank, and the numbers, the turns or the parts."""

from drawnturns.bounds import MAX_CELLS
from drawnturns.drawkinds import draws_error
from drawnturns.errors import BadDraws, BadText
from drawnturns.numerals import number_told

SIGNS = ("B", "A")
HANDS = {"B": 0, "A": 1}


def draws_text(draws):
    """Return the text of the draws."""
    word, *items = draws
    return word + " " + items_text(word, items)


def items_text(word, items):
    """Return what stands behind the word and a blank."""
    if word == "chain":
        return ", ".join([numbers_text(pair) for pair in items])
    if word == "row":
        return turns_text(items[0])
    if word == "mix":
        return "; ".join([str(weight) + " of " + draws_text(draws) for weight, draws in items[0]])
    if word == "table":
        return ", ".join([turns_text(row) + " " + str(weight) for row, weight in items[0]])
    return numbers_text(items)


def numbers_text(numbers):
    """Return the numbers in decimal, a blank between two."""
    return " ".join([str(number) for number in numbers])


def turns_text(row):
    """Return the sign of each turn of the row."""
    return "".join([SIGNS[hand] for hand in row])


def read_draws(many, value):
    """Return the draws for many cells whose text value is."""
    if not isinstance(value, str):
        raise BadText(0)
    draws = draws_told(value)
    if all([draws_error(cells, draws) is not None for cells in range(1, MAX_CELLS + 1)]):
        raise BadText(0)
    error = draws_error(many, draws)
    if error is not None:
        raise BadDraws(error)
    return draws


def draws_told(text):
    """Return the draws that the text tells, with None for each number and turn that it does not tell."""
    word, _, rest = text.partition(" ")
    if word == "mix":
        return (word, tuple([part_told(part) for part in rest.split("; ")]))
    return plain_told(word, rest)


def part_told(text):
    """Return the part of a mix that the text tells."""
    weight, _, draws = text.partition(" of ")
    word, _, rest = draws.partition(" ")
    # A mix in it is not read: no draws have one there, and so many could stand one in another.
    return (number_told(weight), plain_told(word, rest))


def plain_told(word, rest):
    """Return the draws, no mix, that the word and the rest behind it tell."""
    if word == "chain":
        return (word, *[numbers_told(pair) for pair in rest.split(", ")])
    if word == "row":
        return (word, turns_told(rest))
    if word == "table":
        return (word, tuple([weighed_told(pair) for pair in rest.split(", ")]))
    return (word, *numbers_told(rest))


def numbers_told(text):
    """Return the tuple of the numbers that the text tells."""
    return tuple([number_told(numeral) for numeral in text.split(" ")])


def turns_told(text):
    """Return the row that the text tells."""
    return tuple([HANDS.get(sign) for sign in text])


def weighed_told(text):
    """Return the pair of a row and its weight that the text tells."""
    turns, _, weight = text.partition(" ")
    return (turns_told(turns), number_told(weight))
