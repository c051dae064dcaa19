"""A shell: it is told lines, one by one, and answers each of them."""

from drawnturns.answers import ANSWERS, NEEDS
from drawnturns.drawtexts import HANDS
from drawnturns.errors import BadDraws, BadScore, BadText, NothingToUndo, TooMany, TooManyEdits, Unfit
from drawnturns.numerals import number_told

# Behind these words a text stands, behind the next ones an INT; a hand behind "drawn"; behind all others nothing.
TEXTS = ("draws", "score")
INTS = ("cells", "put", "weighs")
GREATEST_INT = 99999


class Shell:
    """Cells, draws, a score and a game of them, as far as they were told."""

    def __init__(self):
        self.held = {}

    def say(self, line):
        """Do what the line says, and return the answer."""
        try:
            return answered(self.held, line)
        except Unfit:
            return "error Unfit"
        except BadDraws:
            return "error BadDraws"
        except BadScore:
            return "error BadScore"
        except BadText:
            return "error BadText"
        except TooMany:
            return "error TooMany"
        except TooManyEdits:
            return "error TooManyEdits"
        except NothingToUndo:
            return "error NothingToUndo"


def answered(held, line):
    """Return the answer to the line of a shell that holds this, and do what the line says."""
    parts = line_told(line)
    if parts is None:
        return "what"
    word, *told = parts
    for needed in NEEDS[word]:
        if needed not in held:
            return "no " + needed
    answer = ANSWERS[word]
    return answer(held, *told)


def line_told(line):
    """Return the tuple of the line's word and of what is told behind it, or None if it is no line of a shell."""
    if not isinstance(line, str):
        return None
    word, blank, rest = line.partition(" ")
    if word in TEXTS:
        return (word, rest) if blank else None
    if word in INTS:
        return told_with(word, int_told(rest))
    if word == "drawn":
        return told_with(word, HANDS.get(rest))
    return (word,) if word in NEEDS and blank == "" else None


def told_with(word, told):
    """Return the pair of the word and what is told, or None if nothing is."""
    return None if told is None else (word, told)


def int_told(text):
    """Return the INT that the text tells, or None if it is none."""
    number = number_told(text)
    return None if number is None or number > GREATEST_INT else number
