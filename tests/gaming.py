"""Games kept in another way than by the program: a list of all states."""

import outcomes
import reference
from drawnturns.errors import BadScore, TooManyEdits, Unfit
from plays import begun, behind


def state(game):
    """All that callers read of a game."""
    return (game.many, game.draws, game.score, game.position, game.hand, game.edits, game.version)


def edit_by(game, edit):
    """Do an edit as it stands among the edits."""
    word, told = edit
    return {"drawn": game.drawn, "put": game.put, "rescore": game.rescore}[word](told)


def some_edit(chooser, game, scores):
    """An edit, right or wrong."""
    word = chooser.choice(("drawn", "put", "put", "drawn", "rescore"))
    if word == "rescore":
        return (word, chooser.choice(scores))
    return (word, chooser.randrange(2) if word == "drawn" else chooser.randrange(-1, game.many + 1))


class Model:
    """A game of one's own: a list of all states, the last one being the present one."""

    def __init__(self, many, draws, score):
        self.many, self.draws = many, draws
        self.states = [(score, begun(many), None)]
        self.edits = []

    def can(self, edit):
        """The error that the edit raises, or None."""
        (word, told), (_, position, hand) = edit, self.states[-1]
        if word == "drawn" and (hand is not None or not outcomes.can_be_next(self.draws, position, told)):
            return Unfit()
        if word == "put" and (hand is None or told not in outcomes.empty_in(position)):
            return Unfit()
        if word == "rescore" and reference.score_error(self.many, told) is not None:
            return BadScore(reference.score_error(self.many, told))
        return TooManyEdits() if len(self.edits) == 100 else None

    def do(self, edit):
        (word, told), (score, position, hand) = edit, self.states[-1]
        new = {
            "drawn": lambda: (score, position, told),
            "put": lambda: (score, behind(position, hand, told), None),
            "rescore": lambda: (told, position, hand),
        }
        self.states.append(new[word]())
        self.edits.append(edit)

    def undo(self):
        self.states.pop()
        self.edits.pop()

    def state(self):
        score, position, hand = self.states[-1]
        return (self.many, self.draws, score, position, hand, tuple(self.edits), len(self.edits))
