"""Numerals: integers from 0 on in decimal, without noughts ahead of other figures."""

FIGURES = "0123456789"
# No number of a text has more figures: MAX_NUMBER has as many.
MOST_FIGURES = 7


def number_told(text):
    """Return the integer whose numeral text is, or None if it is none of at most MOST_FIGURES figures."""
    if not 1 <= len(text) <= MOST_FIGURES or not all([sign in FIGURES for sign in text]):
        return None
    if len(text) > 1 and text[0] == "0":
        return None
    return int(text)
