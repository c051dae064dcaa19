"""Texts of scores, and the reading of them, sign by sign."""

from drawnturns.bounds import MAX_DEEP
from drawnturns.errors import BadScore, BadText
from drawnturns.numerals import FIGURES, MOST_FIGURES
from drawnturns.scores import score_error

# The words of scores in brackets, by their first signs, which are unlike.
WORDS = {
    "s": "sum",
    "l": "least",
    "g": "greatest",
    "t": "times",
    "n": "not",
    "i": "if",
}


def score_text(score):
    """Return the text of the score."""
    word = score[0]
    if word == "number":
        return str(score[1])
    if word == "cell":
        return "c" + str(score[1])
    if word == "y" or word == "hex":
        return " ".join([word] + [str(item) for item in score[1:]])
    return word + "(" + ", ".join([score_text(part) for part in score[1:]]) + ")"


def read_score(many, value):
    """Return the score for many cells whose text value is."""
    if not isinstance(value, str):
        raise BadText(0)
    score, end = read_part(value, 0, 0)
    if end < len(value):
        raise BadText(end)
    error = score_error(many, score)
    if error is not None:
        raise BadScore(error)
    return score


def read_part(text, place, brackets):
    """Return the score whose text begins at the place, within so many brackets, and the place behind."""
    sign = text[place:place + 1]
    if sign == "-":
        number, end = read_numeral(text, place + 1, FIGURES[1:])
        return (("number", -number), end)
    if sign == "c":
        cell, end = read_numeral(text, place + 1, FIGURES)
        return (("cell", cell), end)
    if sign == "y":
        side, end = read_numeral(text, behind(text, place, "y "), FIGURES)
        return (("y", side), end)
    if sign == "h":
        rows, end = read_numeral(text, behind(text, place, "hex "), FIGURES)
        columns, end = read_numeral(text, behind(text, end, " "), FIGURES)
        return (("hex", rows, columns), end)
    if sign in WORDS and brackets < MAX_DEEP:
        word = WORDS[sign]
        parts, end = read_parts(text, behind(text, place, word + "("), brackets + 1)
        return ((word, *parts), end)
    # Nothing else is left, so what begins no numeral cannot stand here.
    number, end = read_numeral(text, place, FIGURES)
    return (("number", number), end)


def read_parts(text, place, brackets):
    """Return the scores from the place on to the bracket that closes, and the place behind it."""
    part, end = read_part(text, place, brackets)
    parts = [part]
    while text[end:end + 1] != ")":
        part, end = read_part(text, behind(text, end, ", "), brackets)
        parts.append(part)
    return (parts, end + 1)


def read_numeral(text, place, firsts):
    """Return the number whose numeral begins at the place, by one of firsts, and the place behind it."""
    if place == len(text) or text[place] not in firsts:
        raise BadText(place)
    end = place + 1
    if text[place] != "0":
        while end < len(text) and end < place + MOST_FIGURES and text[end] in FIGURES:
            end += 1
    return (int(text[place:end]), end)


def behind(text, place, due):
    """Return the place behind the signs that are due from the place on."""
    for sign in due:
        if text[place:place + 1] != sign:
            raise BadText(place)
        place += 1
    return place
