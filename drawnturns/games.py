"""Games that are played turn by turn, with edits that can be taken back."""

from drawnturns.bestcells import best_cells
from drawnturns.bounds import MAX_CELLS, MAX_EDITS
from drawnturns.drawkinds import draws_error
from drawnturns.errors import BadDraws, BadScore, NothingToUndo, TooManyEdits, Unfit
from drawnturns.kinds import is_hand, is_integer
from drawnturns.means import can_be_next, mean_at, position_of
from drawnturns.positions import empty_cells, taken
from drawnturns.scores import score_error
from drawnturns.scoring import worth_of


class Game:
    """A game of many cells with its draws: what is taken, who is drawn, which score counts."""

    def __init__(self, many, draws, score):
        if not is_integer(many) or not 1 <= many <= MAX_CELLS:
            raise Unfit()
        error = draws_error(many, draws)
        if error is not None:
            raise BadDraws(error)
        check_score(many, score)
        self.many = many
        self.draws = draws
        self.score = score
        self.position = position_of(many)
        self.hand = None
        self.edits = ()
        self.version = 0
        # For each edit that stands the score, the position and the hand ahead of it.
        self._past = ()

    def mean(self):
        """Return the mean at the position."""
        return mean_at(self.draws, self.score, self.position)

    def best(self):
        """Return the best cells for the hand that is drawn."""
        if self.hand is None:
            raise Unfit()
        return best_cells(self.draws, self.score, self.position, self.hand)

    def worth(self):
        """Return the worth of the full board."""
        if len(empty_cells(self.position[1])) > 0:
            raise Unfit()
        return worth_of(self.score, self.position[1])

    def drawn(self, hand):
        """Let hand be drawn; return the version then."""
        if not is_hand(hand) or self.hand is not None or not can_be_next(self.draws, self.position, hand):
            raise Unfit()
        return self.edited(("drawn", hand), self.score, self.position, hand)

    def put(self, cell):
        """Let the hand that is drawn take the cell; return the version then."""
        # None, which is drawn if nobody is, takes no cell.
        return self.edited(("put", cell), self.score, taken(self.position, self.hand, cell), None)

    def rescore(self, score):
        """Let the score count from now on; return the version then."""
        check_score(self.many, score)
        return self.edited(("rescore", score), score, self.position, self.hand)

    def edited(self, edit, score, position, hand):
        """Let the edit stand that leads to the score, the position and the hand; return the version then."""
        if len(self.edits) == MAX_EDITS:
            raise TooManyEdits()
        self._past = self._past + ((self.score, self.position, self.hand),)
        self.score, self.position, self.hand = score, position, hand
        return self.with_edits(self.edits + (edit,))

    def undo(self):
        """Take back the last edit that stands; return the version then."""
        if len(self.edits) == 0:
            raise NothingToUndo()
        self.score, self.position, self.hand = self._past[-1]
        self._past = self._past[:-1]
        return self.with_edits(self.edits[:-1])

    def with_edits(self, edits):
        """Let these edits stand; return the version then."""
        self.edits = edits
        self.version = len(edits)
        return self.version

    def twin(self):
        """Return another game, equal in all to this one."""
        other = Game(self.many, self.draws, self.score)
        other.position = self.position
        other.hand = self.hand
        other.edits = self.edits
        other.version = self.version
        other._past = self._past
        return other

    def __eq__(self, other):
        return (
            isinstance(other, Game) and self.many == other.many and self.draws == other.draws
            and self.score == other.score and self.position == other.position and self.hand == other.hand
        )

    def __ne__(self, other):
        return not self == other


def check_score(many, score):
    """Raise BadScore if score is no score for many cells."""
    error = score_error(many, score)
    if error is not None:
        raise BadScore(error)
