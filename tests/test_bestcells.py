import random
import unittest

import drawn
import outcomes
import reference
from checks import Checks
from drawnturns.bestcells import best_cells, weighs
from drawnturns.drawing import is_exchangeable
from drawnturns.errors import TooMany, Unfit
from drawn import BAG, CHAIN, COIN, URN, pair_of
from plays import all_positions, begun, played

CELLS = [("cell", cell) for cell in range(10)]
SUM = ("sum", ("times", ("number", 4), CELLS[0]), ("times", ("number", 2), CELLS[1]), CELLS[2])


def empty_of(position):
    return tuple(outcomes.empty_in(position))


class TestWeighs(Checks, unittest.TestCase):
    def test_all_positions_of_few_cells(self):
        chooser = random.Random(121)
        raised = 0
        for many in (1, 2, 3):
            scores = reference.drawn_scores(122, many, 2, 40)
            positions = [one for one in sorted(all_positions(many), key=repr) if empty_of(one)]
            for draws in drawn.exchangeable_draws(chooser, many) + drawn.draws_of_all_kinds(chooser, many, 2):
                even = drawn.least_parting_rows(many, draws) is None
                for position in positions:
                    score, cell = chooser.choice(scores), chooser.choice(empty_of(position))
                    if even and all(outcomes.can_be_next(draws, position, hand) for hand in (0, 1)):
                        wanted = pair_of(outcomes.weight_at(draws, score, position, cell))
                        self.assert_same(weighs(draws, score, position, cell), wanted)
                    else:
                        raised += 1
                        self.assert_raises(Unfit(), weighs, draws, score, position, cell)
        self.assertGreater(raised, 100)

    def test_more_cells(self):
        chooser = random.Random(123)
        for many in (5, 6, 7):
            scores = reference.drawn_scores(124, many, 2, 20)
            for draws in drawn.exchangeable_draws(chooser, many):
                position, score = played(chooser, many, chooser.randrange(1, many)), chooser.choice(scores)
                if all(outcomes.can_be_next(draws, position, hand) for hand in (0, 1)):
                    for cell in empty_of(position):
                        wanted = pair_of(outcomes.weight_at(draws, score, position, cell))
                        self.assert_same(weighs(draws, score, position, cell), wanted)

    def test_ten_empty_cells(self):
        for draws in (COIN, ("bag", 7, 5), URN, ("mix", ((1, COIN), (2, BAG), (3, URN)))):
            told = weighs(draws, CELLS[4], begun(10), 9)
            self.assert_same(told, pair_of(outcomes.weight_at(draws, CELLS[4], begun(10), 9)))
            self.assert_same([weighs(draws, CELLS[4], begun(10), cell) for cell in (0, 4)], [told, (1, 1)])
        fair = ("coin", 1, 1)
        weights = [weighs(fair, ("y", 4), begun(10), cell) for cell in range(10)]
        corners, sides = {weights[cell] for cell in (0, 6, 9)}, {weights[cell] for cell in (1, 2, 3, 5, 7, 8)}
        self.assertEqual((len(corners), len(sides)), (1, 1))
        self.assert_same(weights[4], pair_of(outcomes.weight_at(fair, ("y", 4), begun(10), 4)))

    def test_by_hand(self):
        self.assert_same([weighs(COIN, SUM, begun(3), cell) for cell in (0, 1, 2)], [(4, 1), (2, 1), (1, 1)])
        less = ("times", ("number", -3), CELLS[1])
        self.assert_same([weighs(COIN, less, begun(2), cell) for cell in (0, 1)], [(0, 1), (-3, 1)])
        # Behind A's turn a chit of B more is left than behind B's.
        self.assert_same(weighs(("bag", 1, 1), CELLS[0], begun(2), 1), (-1, 1))
        self.assert_same(weighs(("bag", 1, 1), CELLS[0], begun(2), 0), (1, 1))
        self.assert_same(weighs(("urn", 1, 1, 1), CELLS[0], begun(2), 1), (1, 3))

    def test_a_position_that_cannot_come(self):
        for draws, row in ((("coin", 1, 0), (0,)), (("bag", 1, 3), (1, 1)), (("urn", 0, 1, 2), (1,))):
            position = (row, row + (None,) * (4 - len(row)))
            self.assert_raises(Unfit(), weighs, draws, CELLS[0], position, 3)

    def test_draws_that_are_not_exchangeable(self):
        for draws in (CHAIN, ("row", (1, 0, 0)), ("table", (((0, 1, 0), 1), ((1, 0, 0), 1)))):
            for cell in (0, 1, 2):
                self.assert_raises(Unfit(), weighs, draws, SUM, begun(3), cell)
        # The turns left are exchangeable, the draws are not.
        uneven = ("chain", (1, 1), (1, 2), (2, 1))
        self.assert_raises(Unfit(), weighs, uneven, SUM, ((1, 0), (1, 0, None)), 2)
        self.assert_raises(Unfit(), weighs, uneven, SUM, begun(6), 5)

    def test_one_hand_alone_can_be_next(self):
        for draws, row in (
            (("coin", 1, 0), ()), (("coin", 0, 1), (0,)), (("bag", 1, 2), (1,)), (("bag", 2, 1), (0,)),
            (("row", (1, 1, 1)), (1,)), (("urn", 0, 1, 1), ()),
        ):
            self.assert_raises(Unfit(), weighs, draws, SUM, (row, row + (None,) * (3 - len(row))), 2)

    def test_by_names(self):
        self.assert_same(weighs(cell=1, position=begun(3), score=SUM, draws=COIN), (2, 1))


class TestBestCells(Checks, unittest.TestCase):
    def check(self, draws, score, position, hand):
        if outcomes.can_be_next(draws, position, hand):
            wanted = outcomes.best_cells(draws, score, position, hand)
            self.assert_same(best_cells(draws, score, position, hand), wanted)
        else:
            self.assert_raises(Unfit(), best_cells, draws, score, position, hand)

    def test_all_positions_of_few_cells(self):
        chooser = random.Random(131)
        for many in (1, 2, 3):
            scores = reference.drawn_scores(132, many, 2, 60)
            positions = sorted(all_positions(many), key=repr)
            for draws in drawn.draws_of_all_kinds(chooser, many, 2) + drawn.exchangeable_draws(chooser, many):
                for position in positions:
                    for hand in (0, 1):
                        self.check(draws, chooser.choice(scores), position, hand)

    def test_four_cells_and_five(self):
        chooser = random.Random(133)
        for many in (4, 5):
            scores = reference.drawn_scores(134, many, 2, 20)
            for draws in drawn.draws_of_all_kinds(chooser, many, 1):
                for hand in (0, 1):
                    self.check(draws, chooser.choice(scores), begun(many), hand)
                    self.check(draws, chooser.choice(scores), played(chooser, many, 2), hand)

    def test_five_empty_cells_of_more(self):
        chooser = random.Random(135)
        for many in (6, 8, 10):
            scores = reference.drawn_scores(136, many, 2, 10)
            for draws in drawn.draws_of_all_kinds(chooser, many, 1):
                for empty in (1, 3, 4):
                    self.check(draws, chooser.choice(scores), played(chooser, many, many - empty), chooser.randrange(2))
            self.check(CHAIN, chooser.choice(scores), played(chooser, many, many - 5), 1)

    def test_more_than_five_empty_cells(self):
        for many in range(6, 11):
            swap = ("table", (((0,) + (1,) * (many - 1), 1), ((1,) * (many - 1) + (0,), 2)))
            for draws in (CHAIN, swap):
                for hand in (0, 1):
                    self.assert_raises(TooMany(5), best_cells, draws, CELLS[0], begun(many), hand)
        position = ((1,), (1,) + (None,) * 6)
        self.assert_raises(TooMany(5), best_cells, CHAIN, CELLS[0], position, 0)
        position = ((1, 1), (1, 1) + (None,) * 5)
        self.assert_same(best_cells(CHAIN, CELLS[4], position, 0), (4,))

    def test_unfit_ahead_of_too_many(self):
        for many in range(6, 11):
            draws = ("row", (1, 0) + (1,) * (many - 2))
            self.assert_raises(Unfit(), best_cells, draws, CELLS[0], begun(many), 0)
            self.assert_raises(TooMany(5), best_cells, draws, CELLS[0], begun(many), 1)
            self.assert_raises(Unfit(), best_cells, draws, CELLS[0], ((0,), (0,) + (None,) * (many - 1)), 1)

    def test_a_full_position(self):
        for hand in (0, 1):
            self.assert_raises(Unfit(), best_cells, COIN, SUM, ((1, 0, 1), (1, 0, 1)), hand)

    def test_the_same_cells_for_either_hand_those_that_weigh_most(self):
        chooser = random.Random(137)
        for many in (2, 3, 5, 7, 10):
            scores = reference.drawn_scores(138, many, 2, 20)
            for draws in drawn.exchangeable_draws(chooser, many):
                for turns in (0, 1, many // 2):
                    position, score = played(chooser, many, turns), chooser.choice(scores)
                    if all(outcomes.can_be_next(draws, position, hand) for hand in (0, 1)):
                        weights = {cell: drawn.Fraction(*weighs(draws, score, position, cell))
                                   for cell in empty_of(position)}
                        wanted = tuple(cell for cell in weights if weights[cell] == max(weights.values()))
                        for hand in (0, 1):
                            self.assert_same(best_cells(draws, score, position, hand), wanted)

    def test_all_cells_where_one_hand_alone_can_be_next(self):
        chooser = random.Random(139)
        for many in (3, 5, 10):
            for score in reference.drawn_scores(140, many, 2, 5):
                for draws, row, hand in (
                    (("coin", 1, 0), (), 1), (("coin", 0, 1), (0,), 0), (("bag", 1, many - 1), (0, 1), 0),
                    (("bag", many - 1, 1), (0,), 1), (("row", (1,) * many), (1, 1), 1), (("urn", 0, 1, 1), (), 0),
                    (("urn", 1, 0, 1), (1, 1), 1),
                ):
                    position = (row, row + (None,) * (many - len(row)))
                    self.assert_same(best_cells(draws, score, position, hand), tuple(range(len(row), many)))
                    self.assert_raises(Unfit(), best_cells, draws, score, position, 1 - hand)

    def test_with_other_draws_a_lone_hand_chooses(self):
        self.assert_same(best_cells(("row", (1, 0, 0)), SUM, begun(3), 1), (0,))
        self.assert_same(best_cells(("row", (0, 1, 1)), SUM, begun(3), 0), (0,))
        self.assert_same(best_cells(("row", (0, 1, 1)), CELLS[2], ((0,), (0, None, None)), 1), (1, 2))

    def test_numbers_alone(self):
        for draws in (COIN, CHAIN):
            self.assert_same(best_cells(draws, ("number", -4), ((1,), (None, 1, None, None)), 0), (0, 2, 3))

    def test_ten_empty_cells(self):
        boards = ("sum",) + tuple(("sum",) + (("hex", 2, 5), ("y", 4)) * 5 for _ in range(10))
        chits = ("mix", tuple((place + 1, ("bag", 5 + place, 9)) for place in range(6)))
        for draws in (("coin", 1, 1), chits, URN):
            self.assertTrue(is_exchangeable(10, draws))
            for hand in (0, 1):
                self.assert_same(best_cells(draws, ("y", 4), begun(10), hand), (4,))
                self.assert_same(best_cells(draws, ("times", CELLS[9], CELLS[3]), begun(10), hand), (3, 9))
                self.assertEqual(len(best_cells(draws, boards, begun(10), hand)), 1)

    def test_by_names(self):
        self.assert_same(best_cells(hand=0, position=begun(3), score=SUM, draws=COIN), (0,))
        self.assert_raises(TooMany(5), best_cells, hand=0, position=begun(6), score=SUM, draws=CHAIN)


if __name__ == "__main__":
    unittest.main()
