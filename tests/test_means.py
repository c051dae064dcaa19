import random
import unittest

import drawn
import outcomes
import reference
from checks import Checks
from drawnturns.drawing import chance, next_chance
from drawnturns.errors import Unfit
from drawnturns.means import mean_at, position_of
from drawnturns.positions import empty_cells, taken
from drawn import BAG, CHAIN, COIN, URN, pair_of
from plays import all_positions, begun, played

CELLS = [("cell", cell) for cell in range(10)]


def scores_for(seed, many, number):
    """So many scores for many cells, in a circle without an end."""
    found = reference.drawn_scores(seed, many, 2, number)
    while True:
        yield from found


class TestPositionOf(Checks, unittest.TestCase):
    def test_one_cell_to_ten(self):
        for many in range(1, 11):
            self.assert_same(position_of(many), begun(many))

    def test_by_name(self):
        self.assert_same(position_of(many=2), ((), (None, None)))


class TestMeanAt(Checks, unittest.TestCase):
    def test_all_positions_of_few_cells(self):
        chooser = random.Random(81)
        for many in (1, 2, 3):
            scores = scores_for(82, many, 40)
            positions = sorted(all_positions(many), key=repr)
            for draws in drawn.draws_of_all_kinds(chooser, many, 3) + drawn.exchangeable_draws(chooser, many):
                for position in positions:
                    score = next(scores)
                    if outcomes.can_come(draws, position):
                        wanted = pair_of(outcomes.mean_at(draws, score, position))
                        self.assert_same(mean_at(draws, score, position), wanted)
                    else:
                        self.assert_raises(Unfit(), mean_at, draws, score, position)

    def test_positions_of_four_cells_to_seven(self):
        chooser = random.Random(83)
        for many in (4, 5, 6, 7):
            scores = scores_for(84, many, 20)
            for draws in drawn.draws_of_all_kinds(chooser, many, 3):
                for turns in range(many + 1):
                    position, score = played(chooser, many, turns), next(scores)
                    if outcomes.can_come(draws, position):
                        wanted = pair_of(outcomes.mean_at(draws, score, position))
                        self.assert_same(mean_at(draws, score, position), wanted)
                    else:
                        self.assert_raises(Unfit(), mean_at, draws, score, position)

    def test_ten_empty_cells(self):
        chooser = random.Random(85)
        scores = scores_for(86, 10, 4)
        rows = sorted(chooser.sample(drawn.all_rows(10), 30))
        table = ("table", tuple((row, place + 1) for place, row in enumerate(rows)))
        mix = ("mix", ((2, table), (1, BAG), (3, CHAIN)))
        for draws in (COIN, BAG, URN, CHAIN, ("row", rows[7]), table, mix):
            score = next(scores)
            self.assert_same(mean_at(draws, score, begun(10)), pair_of(outcomes.mean_at(draws, score, begun(10))))

    def test_by_hand(self):
        both, either = ("times", CELLS[0], CELLS[1]), ("greatest", CELLS[0], CELLS[1])
        self.assert_same(mean_at(COIN, both, begun(2)), (4, 25))
        self.assert_same(mean_at(COIN, either, begun(2)), (16, 25))
        self.assert_same(mean_at(("urn", 1, 1, 0), ("y", 4), begun(10)), (1, 2))
        self.assert_same(mean_at(COIN, ("number", -7), begun(10)), (-7, 1))
        self.assert_same(mean_at(("row", (1, 0, 0, 0)), CELLS[3], begun(4)), (1, 4))
        self.assert_same(mean_at(("row", (1, 0, 0, 0)), CELLS[3], ((1,), (1, None, None, None))), (0, 1))
        self.assert_same(mean_at(("bag", 1, 1), ("times", ("number", 10 ** 6), CELLS[0]), begun(2)), (500000, 1))

    def test_full_positions(self):
        score = ("sum", CELLS[0], CELLS[0], CELLS[2], ("number", -5))
        for row, board, wanted in (((1, 0, 1), (1, 0, 1), -2), ((0, 0, 1), (0, 0, 1), -4), ((0, 0, 0), (0, 0, 0), -5)):
            for draws in (COIN, BAG, URN, CHAIN, ("row", row)):
                self.assert_same(mean_at(draws, score, (row, board)), (wanted, 1))
        self.assert_raises(Unfit(), mean_at, ("row", (1, 0, 1)), score, ((1, 1, 0), (1, 0, 1)))

    def test_the_row_counts_not_the_standing_alone(self):
        told = ("table", (((0, 1, 0), 1), ((1, 0, 1), 1)))
        one, other = ((1, 0), (1, 0, None)), ((0, 1), (1, 0, None))
        self.assert_same(mean_at(told, CELLS[2], one), (1, 1))
        self.assert_same(mean_at(told, CELLS[2], other), (0, 1))
        self.assert_same(mean_at(("mix", ((1, COIN), (1, told))), CELLS[2], begun(3)), (9, 20))

    def test_positions_that_cannot_come(self):
        for draws, row in (
            (("coin", 1, 0), (0,)), (("coin", 0, 1), (1, 0)), (("bag", 1, 2), (1, 1)), (("urn", 0, 2, 1), (1,)),
            (("row", (1, 0, 0)), (0,)), (("chain", (1, 1), (1, 0), (1, 1)), (1, 0)),
            (("table", (((1, 1, 1), 1),)), (0,)),
        ):
            for turns in range(3 - len(row) + 1):
                whole = row + (1,) * turns
                self.assert_raises(Unfit(), mean_at, draws, CELLS[0], (whole, whole + (None,) * (3 - len(whole))))

    def test_with_exchangeable_draws_each_cell_parts_the_mean(self):
        chooser = random.Random(87)
        for many in (2, 3, 4, 6):
            scores = scores_for(88, many, 10)
            for draws in drawn.exchangeable_draws(chooser, many):
                position = played(chooser, many, chooser.randrange(many))
                if chance(many, draws, position[0]) == (0, 1):
                    continue
                score = next(scores)
                of_a = drawn.Fraction(*next_chance(many, draws, position[0]))
                for cell in empty_cells(position[1]):
                    told = 0
                    for hand, share in ((1, of_a), (0, 1 - of_a)):
                        if share:
                            told += share * drawn.Fraction(*mean_at(draws, score, taken(position, hand, cell)))
                    self.assert_same(mean_at(draws, score, position), pair_of(told))

    def test_times_and_more(self):
        chooser = random.Random(89)
        for many in (1, 2, 3):
            for draws in drawn.draws_of_all_kinds(chooser, many, 2):
                for score in reference.drawn_scores(90, many, 1, 4):
                    told = drawn.Fraction(*mean_at(draws, score, begun(many)))
                    for v, w in ((0, 3), (2, -5), (7, 0)):
                        other = ("sum", ("times", ("number", v), score), ("number", w))
                        self.assert_same(mean_at(draws, other, begun(many)), pair_of(v * told + w))

    def test_hands_exchanged(self):
        chooser = random.Random(91)
        for many in (1, 2, 3, 4):
            for a, b in ((1, 2), (0, 1), (5, 3)):
                for draws, turned in (
                    (("coin", a, b), ("coin", b, a)), (("urn", a, b, 2), ("urn", b, a, 2)),
                    (("bag", a + 2, b + 2), ("bag", b + 2, a + 2)),
                    (("chain", (a, b), (1, 2), (4, 1)), ("chain", (b, a), (1, 4), (2, 1))),
                ):
                    position = played(chooser, many, chooser.randrange(many + 1))
                    if not outcomes.can_come(draws, position):
                        continue
                    told = mean_at(draws, ("sum",) + tuple(CELLS[:many]), position)
                    cells = [("sum", ("times", ("number", -1), ("not", cell))) for cell in CELLS[:many]]
                    other = mean_at(turned, ("sum", *cells), outcomes.opposite(position))
                    self.assert_same(other, (-told[0], told[1]))

    def test_scores_of_many_parts(self):
        score = reference.with_parts(200)
        cells = len([part for part in reference.parts_of(score).values() if part == CELLS[0]])
        self.assert_same(mean_at(COIN, score, begun(10)), pair_of(drawn.Fraction(2 * cells, 5)))
        boards = ("sum",) + tuple(("sum",) + (("hex", 2, 5), ("y", 4)) * 5 for _ in range(10))
        told = 50 * sum(outcomes.mean_at(("coin", 1, 1), leaf, begun(10)) for leaf in (("hex", 2, 5), ("y", 4)))
        self.assert_same(mean_at(("coin", 1, 1), boards, begun(10)), pair_of(told))

    def test_by_names(self):
        self.assert_same(mean_at(position=begun(1), draws=COIN, score=CELLS[0]), (2, 5))
        self.assert_raises(Unfit(), mean_at, position=((0,), (0,)), draws=("row", (1,)), score=CELLS[0])


if __name__ == "__main__":
    unittest.main()
