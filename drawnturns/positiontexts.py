"""Texts of positions: a sign for each cell, a blank, a sign for each turn."""

from drawnturns.errors import BadPosition, BadText
from drawnturns.positions import position_error

SIGNS = {1: "A", 0: "B", None: "."}
ITEMS = {"A": 1, "B": 0, ".": None}
NO_TURNS = "-"


def position_text(position):
    """Return the text of the position."""
    row, standing = position
    cells = "".join([SIGNS[item] for item in standing])
    turns = "".join([SIGNS[hand] for hand in row])
    return cells + " " + (turns if row else NO_TURNS)


def read_position(many, value):
    """Return the position for many cells whose text value is."""
    if not isinstance(value, str):
        raise BadText(0)
    place = wrong_place(many, value)
    if place is not None:
        raise BadText(place)
    standing = tuple([ITEMS[sign] for sign in value[:many]])
    row = tuple([ITEMS[sign] for sign in value[many + 1:] if sign != NO_TURNS])
    # All signs can stand, so the numbers of turns and of cells are all that can be wrong.
    error = position_error(many, (row, standing))
    if error is not None:
        raise BadPosition(error)
    return (row, standing)


def wrong_place(many, text):
    """Return the first place that is wrong in a text for many cells, or None."""
    for place, sign in enumerate(text):
        if sign not in signs_at(many, text, place):
            return place
    if len(text) < many + 2:
        return len(text)
    return None


def signs_at(many, text, place):
    """Return the signs that can stand at the place, behind such as can."""
    if place < many:
        return "AB."
    if place == many:
        return " "
    if place == many + 1:
        return "AB" + NO_TURNS
    if text[many + 1] == NO_TURNS or place > 2 * many:
        return ""
    return "AB"
