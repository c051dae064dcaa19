"""How many turns are taken until a game is decided, with exchangeable draws."""

from drawnturns.bounds import MAX_TREE
from drawnturns.deciding import are_alike
from drawnturns.drawing import is_exchangeable, weights_behind
from drawnturns.errors import TooMany, Unfit
from drawnturns.ratios import lowest
from drawnturns.scoring import all_worths, gains


def mean_turns(many, draws, score):
    """Return the mean of how many turns are taken until the game, played by best cells, is decided."""
    ends = all_ends(many, draws, score)
    whole = sum([weight for _, weight in ends])
    return lowest(sum([turns * weight for turns, weight in ends]), whole)


def fewest_turns(many, draws, score):
    """Return the least number of turns that may be taken until the game, played by best cells, is decided."""
    return min([turns for turns, _ in all_ends(many, draws, score)])


def most_turns(many, draws, score):
    """Return the greatest number of turns that may be taken until the game, played by best cells, is decided."""
    return max([turns for turns, _ in all_ends(many, draws, score)])


def least_mean_turns(many, draws, score):
    """Return the least mean, over all rules, of how many turns are taken until the game is decided."""
    if not is_exchangeable(many, draws):
        raise Unfit()
    if many > MAX_TREE:
        raise TooMany(MAX_TREE)
    boards = weighed_boards(many, draws, score)
    return lowest(least_turns(boards, tuple(range(many))), weight_in(boards))


def square(many, score):
    """Return the square of the sum of what all cells weigh at the beginning, with a fair coin."""
    worths = all_worths(many, score)
    total = sum([sum(list(gains(worths, cell).values())) for cell in range(many)])
    # The other cells can be in so many ways, each as likely.
    ways = 1 << (many - 1)
    return lowest(total * total, ways * ways)


def all_ends(many, draws, score):
    """Return the list of the pairs (turns, weight) of the ends to which games played by best cells can come."""
    if not is_exchangeable(many, draws):
        raise Unfit()
    return ends_behind(weighed_boards(many, draws, score), tuple(range(many)), 0)


def weighed_boards(many, draws, score):
    """Return the list of the triples (board, weight, worth) of all boards, draws being exchangeable."""
    # A board weighs as much as any row with as many turns of A as it has cells of A: so, as itself as a row.
    weights = weights_behind(many, draws, ())
    return [(board, weights[board], worth) for board, worth in all_worths(many, score).items()]


def ends_behind(boards, cells, turns):
    """Return the ends to which the game comes behind so many turns, if boards are what it can become."""
    weight = weight_in(boards)
    if weight == 0:
        return []
    if is_over(boards):
        return [(turns, weight)]
    cell = best_cell(boards, cells)
    of_b, of_a = [
        ends_behind(boards_with(boards, cell, hand), all_but(cells, cell), turns + 1) for hand in (0, 1)
    ]
    return of_b + of_a


def least_turns(boards, cells):
    """Return the least mean of further turns, times the weight of the boards, which are what the game can become."""
    if is_over(boards):
        return 0
    return weight_in(boards) + min([turns_by(boards, cells, cell) for cell in cells])


def turns_by(boards, cells, first):
    """Return the least mean of turns behind the taking of the first cell, times the weight of the boards."""
    left = all_but(cells, first)
    return sum([least_turns(boards_with(boards, first, hand), left) for hand in (0, 1)])


def weight_in(boards):
    """Return the sum of the weights of the boards."""
    return sum([told[1] for told in boards])


def is_over(boards):
    """Return whether all boards have one worth, also those without weight."""
    return are_alike([told[2] for told in boards])


def best_cell(boards, cells):
    """Return the least of the best cells if boards are what the game can become by the taking of cells."""
    # For each cell the boards on which A has it and those on which B has it bring, together, the same: so the cell
    # with which A's bring most, and B's least, is best for either hand. If one hand alone can be next the other's
    # boards have no weight, and all cells bring the same: they are best all alike.
    brought = [sum([weight * worth for board, weight, worth in boards if board[cell] == 1]) for cell in cells]
    return cells[brought.index(max(brought))]


def boards_with(boards, cell, hand):
    """Return the list of those of the boards on which the cell is hand's."""
    return [told for told in boards if told[0][cell] == hand]


def all_but(cells, taken):
    """Return the tuple of the cells without the one that is taken."""
    return tuple([cell for cell in cells if cell != taken])
