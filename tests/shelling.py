"""A shell in another way than the program's: each sort of line by a pattern, with what answers it."""

import re
from fractions import Fraction

from drawnturns import bestcells, drawing, drawtexts, errors, forms, gamelogs, games, gametree, lengths
from drawnturns import positiontexts, scoretexts, scoring, stretches

INT = "(0|[1-9][0-9]{0,4})"
# What each sort of line needs, in the order in which it is told.
SORTS = {
    f"cells {INT}": "", "draws (.*)": "cells", "score (.*)": "cells", "play": "draws score",
    "drawn ([AB])": "game", f"put {INT}": "game", "rescore": "score game", "undo": "game",
    "position": "game", "hand": "game", "mean": "game", "best": "game", "end": "game", "worth": "game",
    f"weighs {INT}": "game", "log": "game", "numbers": "draws", "parting": "draws", "form": "score",
    "stretches": "score", "square": "score", "length": "draws score", "least": "draws score",
}


def told(fraction):
    """The text of a fraction, as Python writes it."""
    return str(Fraction(*fraction))


def blanks(items):
    return " ".join(str(item) for item in items)


class Model:
    """What a shell is to answer."""

    def __init__(self):
        self.cells = self.draws = self.score = self.game = None

    def say(self, line):
        if type(line) is not str:
            return "what"
        for sort, needs in SORTS.items():
            found = re.compile(sort, re.DOTALL).fullmatch(line)
            if found:
                lacking = [word for word in needs.split() if getattr(self, word) is None]
                if lacking:
                    return "no " + lacking[0]
                try:
                    return getattr(self, "say_" + sort.split()[0])(*found.groups())
                except errors.TurnError as error:
                    return "error " + type(error).__name__
        return "what"

    def say_cells(self, many):
        if int(many) not in range(1, 11):
            raise errors.Unfit()
        self.__init__()
        self.cells = int(many)
        return f"cells {self.cells}"

    def say_draws(self, text):
        self.draws = drawtexts.read_draws(self.cells, text)
        return "exchangeable" if drawing.is_exchangeable(self.cells, self.draws) else "not exchangeable"

    def say_score(self, text):
        self.score = scoretexts.read_score(self.cells, text)
        return "rising" if scoring.is_rising(self.cells, self.score) else "not rising"

    def say_play(self):
        self.game = games.Game(self.cells, self.draws, self.score)
        return "begun"

    def say_drawn(self, sign):
        return f"version {self.game.drawn('BA'.index(sign))}"

    def say_put(self, cell):
        return f"version {self.game.put(int(cell))}"

    def say_rescore(self):
        return f"version {self.game.rescore(self.score)}"

    def say_undo(self):
        return f"version {self.game.undo()}"

    def say_position(self):
        return positiontexts.position_text(self.game.position)

    def say_hand(self):
        return {None: "nobody", 1: "A", 0: "B"}[self.game.hand]

    def say_mean(self):
        return told(self.game.mean())

    def say_best(self):
        return blanks(self.game.best())

    def say_end(self):
        return f"{self.game.worth()}"

    def say_worth(self):
        return told(gametree.worth_at(self.game.draws, self.game.score, self.game.position))

    def say_weighs(self, cell):
        if self.game.position[1][int(cell):][:1] != (None,):
            raise errors.Unfit()
        return told(bestcells.weighs(self.game.draws, self.game.score, self.game.position, int(cell)))

    def say_log(self):
        return gamelogs.log_text(self.game.edits)

    def say_numbers(self):
        return blanks(told(fraction) for fraction in drawing.numbers_of(self.cells, self.draws))

    def say_parting(self):
        rows = drawing.parting_rows(self.cells, self.draws)
        return blanks("".join("BA"[hand] for hand in row) for row in rows) if rows else "none"

    def say_form(self):
        return blanks(forms.form(self.cells, self.score)) or "0"

    def say_stretches(self):
        return "; ".join(blanks(cells) for _, cells in stretches.stretches(self.cells, self.score))

    def say_square(self):
        return told(lengths.square(self.cells, self.score))

    def say_length(self):
        return told(lengths.mean_turns(self.cells, self.draws, self.score))

    def say_least(self):
        return told(lengths.least_mean_turns(self.cells, self.draws, self.score))
