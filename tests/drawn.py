"""What the document says of draws, worked out turn by turn and in fractions of Python's own."""

import re
from fractions import Fraction
from itertools import product

from reference import is_integer

COIN, BAG, URN = ("coin", 2, 3), ("bag", 7, 5), ("urn", 1, 2, 3)
CHAIN = ("chain", (1, 1), (2, 1), (1, 3))
GREAT = 10 ** 6


def all_rows(turns):
    """All rows of so many turns, the ascending ones first."""
    return list(product((0, 1), repeat=turns))


def pair_of(fraction):
    """The pair that the document calls a fraction."""
    return (fraction.numerator, fraction.denominator)


# Chances, turn by turn.

def turn_chance(draws, row):
    """The chance that the turn behind row, which has a chance, is A's."""
    word = draws[0]
    if word == "coin":
        return Fraction(draws[1], draws[1] + draws[2])
    if word == "bag":
        return Fraction(draws[1] - row.count(1), draws[1] + draws[2] - len(row))
    if word == "urn":
        chits = {1: draws[1], 0: draws[2]}
        for hand in row:
            chits[hand] += draws[3]
        return Fraction(chits[1], chits[1] + chits[0])
    if word == "chain":
        counts = draws[1]
        for hand in row:
            counts = draws[2] if hand else draws[3]
        return Fraction(counts[0], counts[0] + counts[1])
    if word == "row":
        return Fraction(draws[1][len(row)])
    if word == "table":
        left = [pair for pair in draws[1] if pair[0][:len(row)] == row]
        of_a = [pair for pair in left if pair[0][len(row)] == 1]
        return Fraction(sum(weight for _, weight in of_a), sum(weight for _, weight in left))
    shares = [(weight * row_chance(part, row), part) for weight, part in draws[1]]
    whole = sum(share for share, _ in shares)
    return sum(share / whole * turn_chance(part, row) for share, part in shares if share)


def row_chance(draws, row):
    """The chance that the first turns are those of row."""
    told = Fraction(1)
    for turn, hand in enumerate(row):
        of_a = turn_chance(draws, row[:turn])
        told *= of_a if hand else 1 - of_a
        if not told:
            break
    return told


def whole_chances(many, draws):
    """The dict of the chances of all rows of many turns, those of no chance too."""
    found = {}
    waiting = [((), Fraction(1))]
    while waiting:
        row, told = waiting.pop()
        if len(row) == many:
            found[row] = told
            continue
        of_a = turn_chance(draws, row) if told else Fraction(1, 2)
        waiting += [(row + (1,), told * of_a), (row + (0,), told * (1 - of_a))]
    return found


def least_parting_rows(many, draws):
    """The least pair of rows with as many turns of A and unlike chances, by a look at all pairs."""
    chances = sorted(whole_chances(many, draws).items())
    for row, told in chances:
        for other, other_told in chances:
            if sum(row) == sum(other) and told != other_told:
                return (row, other)
    return None


# Which values are draws.

def is_count(value, least=0):
    return is_integer(value) and value in range(least, GREAT + 1)


def is_counts(value):
    return type(value) is tuple and [is_count(item) for item in value] == [True, True] and value != (0, 0)


def is_row(many, value):
    return type(value) is tuple and len(value) == many and all(is_integer(item) and item in (0, 1) for item in value)


def is_pair(value):
    return type(value) is tuple and len(value) == 2


def draws_error(many, value):
    """What the document says of value, word by word."""
    if type(value) is not tuple or not value or type(value[0]) is not str:
        return "form"
    word, items = value[0], value[1:]
    if word not in ("coin", "bag", "urn", "chain", "row", "mix", "table"):
        return "kind"
    if word in ("coin", "bag"):
        if not is_counts(items):
            return "numbers"
        return "bag" if word == "bag" and items[0] + items[1] < many else None
    if word == "urn":
        return None if len(items) == 3 and is_counts(items[:2]) and is_count(items[2]) else "numbers"
    if word == "chain":
        return None if [is_counts(item) for item in items] == [True] * 3 else "numbers"
    if word == "row":
        return None if len(items) == 1 and is_row(many, items[0]) else "row"
    if len(items) != 1 or type(items[0]) is not tuple or not items[0]:
        return "parts" if word == "mix" else "rows"
    if word == "table":
        return table_error(many, items[0])
    if len(items[0]) > 6:
        return "parts"
    errors = [("part", place, part_error(many, part)) for place, part in enumerate(items[0])]
    return next((error for error in errors if error[2] is not None), None)


def part_error(many, part):
    if not is_pair(part):
        return "form"
    if not is_count(part[0], least=1):
        return "weight"
    if type(part[1]) is tuple and part[1][:1] == ("mix",):
        return "mix"
    return draws_error(many, part[1])


def table_error(many, pairs):
    errors = [("row", at) for at, pair in enumerate(pairs) if not is_pair(pair) or not is_row(many, pair[0])]
    if not errors:
        errors += [("order", at) for at in range(1, len(pairs)) if not pairs[at - 1][0] < pairs[at][0]]
        errors += [("weight", at) for at, pair in enumerate(pairs) if not is_count(pair[1], least=1)]
    return errors[0] if errors else None


# Texts.

NUMBER = "(?:0|[1-9][0-9]*)"
TURNS = "[AB]+"
FLAT = (
    f"(?:coin {NUMBER} {NUMBER}|bag {NUMBER} {NUMBER}|urn {NUMBER} {NUMBER} {NUMBER}"
    f"|chain {NUMBER} {NUMBER}, {NUMBER} {NUMBER}, {NUMBER} {NUMBER}"
    f"|row {TURNS}|table {TURNS} {NUMBER}(?:, {TURNS} {NUMBER})*)"
)
TEXT = re.compile(f"(?:{FLAT}|mix {NUMBER} of {FLAT}(?:; {NUMBER} of {FLAT})*)")


def turns_in(signs):
    return tuple("BA".index(sign) for sign in signs)


def draws_in(signs):
    """The tuple that signs of the form of a text tell."""
    word, rest = signs.split(" ", 1)
    if word == "mix":
        parts = [part.split(" of ") for part in rest.split("; ")]
        return (word, tuple((int(weight), draws_in(part)) for weight, part in parts))
    if word == "table":
        pairs = [pair.split() for pair in rest.split(", ")]
        return (word, tuple((turns_in(turns), int(weight)) for turns, weight in pairs))
    if word == "row":
        return (word, turns_in(rest))
    if word == "chain":
        numbers = [int(number) for number in rest.replace(",", "").split()]
        return (word, *zip(numbers[::2], numbers[1::2]))
    return (word, *[int(number) for number in rest.split()])


def told_draws(value):
    """The draws of which value is the text, for some number of cells; None if there are none."""
    if type(value) is not str or not TEXT.fullmatch(value):
        return None
    draws = draws_in(value)
    right = [many for many in range(1, 11) if draws_error(many, draws) is None]
    return draws if right else None


# Draws that are drawn by a chooser.

def some_counts(chooser):
    """Two counts, not both 0."""
    pair = (0, 0)
    while pair == (0, 0):
        pair = tuple(chooser.choice((0, 1, 1, 2, 3, 7, GREAT)) for _ in range(2))
    return pair


def some_weight(chooser):
    return chooser.choice((1, 1, 2, 3, 10, GREAT))


def some_table(chooser, many):
    rows = all_rows(many)
    picked = sorted(chooser.sample(rows, chooser.randrange(1, len(rows) + 1)))
    return ("table", tuple((row, some_weight(chooser)) for row in picked))


def some_draws(chooser, many, word):
    """Right draws for many cells, of the kind of the word."""
    if word == "coin":
        return (word, *some_counts(chooser))
    if word == "urn":
        return (word, *some_counts(chooser), chooser.choice((0, 1, 2, 5, GREAT)))
    if word == "bag":
        of_a = chooser.randrange(many + 3)
        return (word, of_a, max(0, many - of_a) + chooser.randrange(3))
    if word == "chain":
        return (word, some_counts(chooser), some_counts(chooser), some_counts(chooser))
    if word == "row":
        return (word, tuple(chooser.randrange(2) for _ in range(many)))
    if word == "table":
        return some_table(chooser, many)
    inner = [chooser.choice(("coin", "bag", "urn", "chain", "row", "table")) for _ in range(chooser.randrange(1, 7))]
    return (word, tuple((some_weight(chooser), some_draws(chooser, many, word)) for word in inner))


KINDS = ("coin", "bag", "urn", "chain", "row", "mix", "table")


def draws_of_all_kinds(chooser, many, number):
    """So many right draws for many cells of each of the seven kinds."""
    return [some_draws(chooser, many, word) for word in KINDS for _ in range(number)]


def even_table(chooser, many):
    """An exchangeable table: each row of k turns of A has the weight of k."""
    weights = [chooser.choice((0, 1, 2, 5)) for _ in range(many)] + [3]
    return ("table", tuple((row, weights[sum(row)]) for row in all_rows(many) if weights[sum(row)]))


def exchangeable_draws(chooser, many):
    """Draws for many cells that are surely exchangeable, of several kinds."""
    flat = [some_draws(chooser, many, word) for word in ("coin", "bag", "urn", "coin", "bag", "urn")]
    flat += [even_table(chooser, many), ("row", (1,) * many), ("row", (0,) * many)]
    mixed = ("mix", tuple((some_weight(chooser), part) for part in chooser.sample(flat, 4)))
    return flat + [mixed]
