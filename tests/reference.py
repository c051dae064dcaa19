"""What the document says of scores and chains, worked out in another way than by the program."""

import random
import re

COMPOUND = {"sum": (1, 10), "least": (1, 10), "greatest": (1, 10), "times": (2, 2), "not": (1, 1), "if": (3, 3)}
LEAVES = {"number": 1, "cell": 1, "y": 1, "hex": 2}


# Triangles and hex boards, by their coordinates.

def triangle_cells(side):
    """The cells (r, c) of a triangle, in the order of their numbers."""
    return [(r, c) for r in range(side) for c in range(r + 1)]


def triangle_near(cell, other):
    """Whether two cells of a triangle are next to one another."""
    step = (other[0] - cell[0], other[1] - cell[1])
    return step in ((0, -1), (0, 1), (-1, -1), (-1, 0), (1, 0), (1, 1))


def triangle_sides(side, cell):
    """The set of the sides that a cell touches."""
    r, c = cell
    return {number for number, there in ((0, c == 0), (1, c == r), (2, r == side - 1)) if there}


def hex_cells(rows, columns):
    """The cells [i, j] of a hex board, in the order of their numbers."""
    return [(i, j) for i in range(rows) for j in range(columns)]


def hex_near_one(cell, other):
    """Whether two cells of a hex board are next to one another."""
    step = (other[0] - cell[0], other[1] - cell[1])
    return step in ((0, -1), (0, 1), (-1, 0), (-1, 1), (1, -1), (1, 0))


def groups(cells, is_near):
    """The cells, parted into lists of such as hang together."""
    found = []
    for cell in cells:
        touched = [group for group in found if any(is_near(cell, other) for other in group)]
        found = [group for group in found if group not in touched]
        found.append(sum(touched, [cell]))
    return found


def has_chain(side, board, hand):
    """Whether the hand has a chain on the board of a triangle."""
    cells = [cell for cell, item in zip(triangle_cells(side), board) if item == hand]
    return any(
        set().union(*[triangle_sides(side, cell) for cell in group]) == {0, 1, 2}
        for group in groups(cells, triangle_near)
    )


def joins(rows, columns, board, hand):
    """Whether the hand joins on the hex board."""
    cells = [cell for cell, item in zip(hex_cells(rows, columns), board) if item == hand]
    at, last = (0, rows - 1) if hand == 1 else (1, columns - 1)
    return any({0, last} <= {cell[at] for cell in group} for group in groups(cells, hex_near_one))


# Scores.

def is_integer(value):
    return type(value) is int


def own_word(many, part, way):
    """The first word of the document that applies to a part, but parts; None if none does."""
    if type(part) is not tuple or part == () or type(part[0]) is not str:
        return "form"
    word, items = part[0], part[1:]
    if word in COMPOUND:
        least, most = COMPOUND[word]
        if len(items) not in range(least, most + 1):
            return "many"
        return "deep" if len(way) == 8 else None
    if word not in LEAVES:
        return "word"
    if len(items) != LEAVES[word]:
        return "many"
    if not all(is_integer(item) for item in items):
        return {"number": "number", "cell": "cell"}.get(word, "board")
    if word == "number":
        return None if abs(items[0]) <= 10 ** 6 else "number"
    if word == "cell":
        return None if items[0] in range(many) else "cell"
    if min(items) < 1:
        return "board"
    cells = sum(range(1, items[0] + 1)) if word == "y" and items[0] < 99 else items[0] * items[-1]
    return None if cells <= many else "board"


def parts_of(value, way=()):
    """The dict of what stands at each way, as far as words with scores behind them lead, nine deep."""
    found = {way: value}
    if type(value) is tuple and value and type(value[0]) is str and value[0] in COMPOUND and len(way) < 9:
        for place, part in enumerate(value[1:]):
            found.update(parts_of(part, way + (place,)))
    return found


def size_of(score):
    """The size of a score, or of a score in it."""
    word, items = score[0], score[1:]
    if word == "number":
        return max(items[0], -items[0])
    if word in ("cell", "not", "y", "hex"):
        return 1
    sizes = [size_of(item) for item in items]
    if word == "if":
        sizes = sizes[1:]
    if word == "times":
        return sizes[0] * sizes[1]
    return sum(sizes) if word == "sum" else sorted(sizes)[-1]


def score_error(many, value):
    """What score_error is to tell."""
    found = parts_of(value)
    for place, way in enumerate(sorted(found)):
        word = "parts" if place >= 200 else own_word(many, found[way], way)
        if word:
            return (word, way)
    return ("great", ()) if size_of(value) > 10 ** 12 else None


def worth_of(score, board):
    """The worth of the board, by the table of the document."""
    word, items = score[0], score[1:]
    if word == "number":
        return items[0]
    if word == "cell":
        return board[items[0]]
    if word == "y":
        return int(has_chain(items[0], board, 1))
    if word == "hex":
        return int(joins(items[0], items[1], board, 1))
    worths = [worth_of(item, board) for item in items]
    if word == "times":
        return worths[0] * worths[1]
    if word == "not":
        return int(worths[0] == 0)
    if word == "if":
        return worths[1] if worths[0] > 0 else worths[2]
    return sum(worths) if word == "sum" else sorted(worths)[0 if word == "least" else -1]


# Scores that are drawn by a chooser.

def drawn_leaf(chooser, many):
    """A score without scores in it."""
    word = chooser.choice(("number", "cell", "cell", "cell", "y", "hex"))
    if word == "number":
        return ("number", chooser.choice((0, 1, -1, 2, -2, 3, 10 ** 6, -10 ** 6)))
    if word == "cell":
        return ("cell", chooser.randrange(many))
    if word == "y":
        return ("y", chooser.choice([side for side in range(1, 5) if side * (side + 1) // 2 <= many]))
    rows = chooser.randrange(1, many + 1)
    return ("hex", rows, chooser.randrange(1, many // rows + 1))


def drawn_score(chooser, many, deep):
    """A score, with ways of up to deep numbers."""
    if deep == 0 or chooser.randrange(5) == 0:
        return drawn_leaf(chooser, many)
    word = chooser.choice(sorted(COMPOUND))
    least, most = COMPOUND[word]
    number = chooser.randrange(least, min(most, 4) + 1)
    return (word,) + tuple(drawn_score(chooser, many, deep - 1) for _ in range(number))


def drawn_scores(seed, many, deep, number):
    """So many scores for many cells."""
    chooser = random.Random(seed)
    found = []
    while len(found) < number:
        score = drawn_score(chooser, many, deep)
        if score_error(many, score) is None:
            found.append(score)
    return found


def with_parts(number):
    """A sum of just so many parts, all others being sums and cells."""
    if number == 1:
        return ("cell", 0)
    pieces = min(10, number - 1)
    whole, more = divmod(number - 1, pieces)
    return ("sum",) + tuple(with_parts(whole + (place < more)) for place in range(pieces))


# Texts of scores: what is a text is shortened to one sign, again and again.

NUMERAL = "(?:0|[1-9][0-9]{0,6})"
LEAF = f"(?:0|-?[1-9][0-9]{{0,6}}|c{NUMERAL}|y {NUMERAL}|hex {NUMERAL} {NUMERAL})"
WORD = "(?:" + "|".join(sorted(COMPOUND)) + ")"
LEAF_BEGUN = f"(?:-|c|y|y |h|he|hex|hex |hex {NUMERAL}|hex {NUMERAL} )"
WORD_BEGUN = "(?:" + "|".join(word[:end] for word in sorted(COMPOUND) for end in range(1, len(word) + 1)) + ")"
ALL_LEAVES = re.compile(rf"(^|\(|, ){LEAF}(?=[,)]|\Z)")
CLOSED = re.compile(rf"{WORD}\(#(?:, #)*\)")
OPENED = re.compile(rf"{WORD}\((?:#, )*")


def shortened(signs):
    """The signs, with # for each whole text in them."""
    signs = ALL_LEAVES.sub(r"\1#", signs)
    while CLOSED.search(signs):
        signs = CLOSED.sub("#", signs)
    return signs


def is_begun(signs):
    """Whether the signs are the beginning of a text, if all shorter beginnings of them are."""
    if "#" in signs:
        return False
    rest = shortened(signs)
    brackets = 0
    while OPENED.match(rest):
        rest = rest[OPENED.match(rest).end():]
        brackets += 1
    if brackets > 8:
        return False
    if rest == "" or rest == "#" or (rest == "#," and brackets):
        return True
    if re.fullmatch(LEAF_BEGUN, rest):
        return True
    return brackets < 8 and re.fullmatch(WORD_BEGUN, rest) is not None


def tuple_begun(found):
    """What stands in Python for a leaf or an opened word of a text."""
    signs = found.group()
    if signs[-1] == "(":
        return f"('{signs[:-1]}', "
    if signs[0] in "-0123456789":
        return f"('number', {signs})"
    word, *numbers = signs.replace("c", "cell ").split()
    return f"('{word}', {', '.join(numbers)})"


def score_of(signs):
    """The tuple that the signs, a text, tell."""
    return eval(re.sub(rf"{LEAF}|{WORD}\(", tuple_begun, signs))


def wrong_place(signs):
    """The place that BadText is to tell, or None if the signs are a text."""
    for place in range(len(signs)):
        if not is_begun(signs[:place + 1]):
            return place
    return None if shortened(signs) == "#" else len(signs)
