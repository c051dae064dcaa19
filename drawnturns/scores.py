"""Scores: what a full board is worth, as a tuple that begins with a word."""

from drawnturns.bounds import MAX_DEEP, MAX_NUMBER, MAX_PARTS, MAX_WORTH
from drawnturns.kinds import is_cell, is_integer
from drawnturns.triangles import cells_in

# For each word the least and the greatest number of items behind it.
ITEMS = {
    "number": (1, 1),
    "cell": (1, 1),
    "sum": (1, 10),
    "least": (1, 10),
    "greatest": (1, 10),
    "times": (2, 2),
    "not": (1, 1),
    "if": (3, 3),
    "y": (1, 1),
    "hex": (2, 2),
}
# The words behind which no scores stand.
SINGLE = ("number", "cell", "y", "hex")


def score_error(many, value):
    """Return None if value is a score for many cells, otherwise what is wrong and the way there."""
    waiting = [((), value)]
    seen = 0
    while waiting:
        way, part = waiting.pop()
        word = "parts" if seen == MAX_PARTS else part_error(many, part, len(way))
        if word is not None:
            return (word, way)
        seen += 1
        # The last of its scores goes in first, so that the first one comes out next.
        inner = scores_in(part)
        for place in reversed(range(len(inner))):
            waiting.append((way + (place,), inner[place]))
    if size_of(value) > MAX_WORTH:
        return ("great", ())
    return None


def part_error(many, part, deep):
    """Return the first word that applies to the part behind a way of deep numbers, or None."""
    if not isinstance(part, tuple) or len(part) == 0 or not isinstance(part[0], str):
        return "form"
    word = part[0]
    if word not in ITEMS:
        return "word"
    fewest, most = ITEMS[word]
    if not fewest <= len(part) - 1 <= most:
        return "many"
    if word == "number":
        return None if is_number(part[1]) else "number"
    if word == "cell":
        return None if is_cell(many, part[1]) else "cell"
    if word in SINGLE:
        return None if is_board(many, part) else "board"
    return "deep" if deep == MAX_DEEP else None


def is_number(value):
    """Return whether value can be the item of a number."""
    return is_integer(value) and -MAX_NUMBER <= value <= MAX_NUMBER


def is_board(many, part):
    """Return whether the items of a y or hex are integers, and give it no more than many cells."""
    if not all([is_integer(item) and item >= 1 for item in part[1:]]):
        return False
    cells = cells_in(part[1]) if part[0] == "y" else part[1] * part[2]
    return cells <= many


def scores_in(score):
    """Return the tuple of the scores that stand right in the score."""
    return () if score[0] in SINGLE else score[1:]


def size_of(score):
    """Return the size of the score, which no worth goes beyond."""
    word = score[0]
    if word == "number":
        return abs(score[1])
    if word == "not" or word in SINGLE:
        return 1
    sizes = [size_of(part) for part in scores_in(score)]
    if word == "sum":
        return sum(sizes)
    if word == "times":
        return sizes[0] * sizes[1]
    return max(sizes[1:] if word == "if" else sizes)
