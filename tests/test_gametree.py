import random
import unittest

import drawn
import outcomes
import reference
from checks import Checks
from drawnturns.errors import TooMany, Unfit
from drawnturns.gametree import worth_at
from drawnturns.means import mean_at
from drawn import CHAIN, COIN, pair_of
from plays import all_positions, begun, played

CELLS = [("cell", cell) for cell in range(10)]
SUM = ("sum", ("times", ("number", 4), CELLS[0]), ("times", ("number", 2), CELLS[1]), CELLS[2])


class TestWorthAt(Checks, unittest.TestCase):
    def check(self, draws, score, position):
        if outcomes.can_come(draws, position):
            self.assert_same(worth_at(draws, score, position), pair_of(outcomes.worth_at(draws, score, position)))
        else:
            self.assert_raises(Unfit(), worth_at, draws, score, position)

    def test_all_positions_of_few_cells(self):
        chooser = random.Random(101)
        for many in (1, 2, 3):
            scores = reference.drawn_scores(102, many, 2, 60)
            positions = sorted(all_positions(many), key=repr)
            for draws in drawn.draws_of_all_kinds(chooser, many, 3):
                for position in positions:
                    self.check(draws, chooser.choice(scores), position)

    def test_the_beginning_of_four_cells_and_five(self):
        chooser = random.Random(103)
        for many, number in ((4, 3), (5, 1)):
            scores = reference.drawn_scores(104, many, 2, 20)
            for draws in drawn.draws_of_all_kinds(chooser, many, number):
                self.check(draws, chooser.choice(scores), begun(many))

    def test_five_empty_cells_and_fewer_of_more_cells(self):
        chooser = random.Random(105)
        for many in (6, 7, 10):
            scores = reference.drawn_scores(106, many, 2, 10)
            for draws in drawn.draws_of_all_kinds(chooser, many, 1):
                for empty in (0, 1, 2, 3, 4):
                    self.check(draws, chooser.choice(scores), played(chooser, many, many - empty))
            self.check(CHAIN, chooser.choice(scores), played(chooser, many, many - 5))

    def test_more_than_five_empty_cells(self):
        for many in range(6, 11):
            for empty in range(6, many + 1):
                position = ((1,) * (many - empty), (1,) * (many - empty) + (None,) * empty)
                self.assert_raises(TooMany(5), worth_at, COIN, CELLS[0], position)
            position = ((1,) * (many - 5), (1,) * (many - 5) + (None,) * 5)
            self.assert_same(worth_at(COIN, CELLS[many - 1], position), (2, 5))

    def test_unfit_ahead_of_too_many(self):
        for many in range(1, 11):
            draws = ("row", (1,) * many)
            self.assert_raises(Unfit(), worth_at, draws, CELLS[0], ((0,), (0,) + (None,) * (many - 1)))
        self.assert_raises(TooMany(5), worth_at, ("row", (1,) * 7), CELLS[0], ((1,), (1,) + (None,) * 6))

    def test_by_hand(self):
        for row, wanted in (
            ((1, 1, 1), 7), ((0, 0, 0), 0), ((1, 0, 0), 4), ((0, 1, 0), 2), ((0, 0, 1), 1), ((1, 1, 0), 6),
            ((1, 0, 1), 5), ((0, 1, 1), 3),
        ):
            self.assert_same(worth_at(("row", row), SUM, begun(3)), (wanted, 1))
        of_b = ("sum", ("times", ("number", -1), SUM), ("number", 7))
        for row, wanted in (((1, 0, 0), 6), ((0, 1, 0), 5), ((0, 0, 1), 3), ((1, 1, 0), 4), ((1, 1, 1), 0)):
            self.assert_same(worth_at(("row", row), of_b, begun(3)), (wanted, 1))
        self.assert_same(worth_at(("table", (((0, 1, 1), 1), ((1, 0, 0), 2))), SUM, begun(3)), (11, 3))
        self.assert_same(worth_at(("chain", (1, 1), (0, 1), (1, 0)), SUM, begun(3)), (7, 2))

    def test_full_positions(self):
        for row in drawn.all_rows(3):
            self.assert_same(worth_at(COIN, SUM, (row, row)), (4 * row[0] + 2 * row[1] + row[2], 1))
        self.assert_raises(Unfit(), worth_at, ("row", (1, 0, 0)), SUM, ((1, 0, 1), (1, 0, 1)))

    def test_a_hand_that_cannot_be_next_counts_for_nothing(self):
        wish = ("if", CELLS[0], ("number", 10 ** 6), ("number", -10 ** 6))
        self.assert_same(worth_at(("coin", 1, 0), wish, begun(2)), (10 ** 6, 1))
        self.assert_same(worth_at(("coin", 0, 1), wish, begun(2)), (-10 ** 6, 1))
        self.assert_same(worth_at(("row", (1, 0)), wish, begun(2)), (10 ** 6, 1))
        self.assert_same(worth_at(("row", (0, 1)), wish, begun(2)), (-10 ** 6, 1))

    def test_numbers_below_0_and_above(self):
        for number in (-10 ** 6, -1, 0, 10 ** 6):
            for draws in (COIN, CHAIN, ("row", (0, 1, 1))):
                self.assert_same(worth_at(draws, ("number", number), begun(3)), (number, 1))

    def test_with_exchangeable_draws_it_is_the_mean(self):
        chooser = random.Random(107)
        for many in (1, 2, 3):
            scores = reference.drawn_scores(108, many, 3, 60)
            positions = sorted(all_positions(many), key=repr)
            for draws in drawn.exchangeable_draws(chooser, many):
                for position in positions:
                    if outcomes.can_come(draws, position):
                        score = chooser.choice(scores)
                        self.assert_same(worth_at(draws, score, position), mean_at(draws, score, position))

    def test_with_exchangeable_draws_it_is_the_mean_for_more_cells(self):
        chooser = random.Random(109)
        for many in (4, 5, 8, 10):
            scores = reference.drawn_scores(110, many, 3, 20)
            for draws in drawn.exchangeable_draws(chooser, many):
                for empty in (5, 4, 3):
                    position = played(chooser, many, max(0, many - empty))
                    if outcomes.can_come(draws, position):
                        score = chooser.choice(scores)
                        self.assert_same(worth_at(draws, score, position), mean_at(draws, score, position))

    def test_with_other_draws_it_need_not_be(self):
        for row in drawn.all_rows(3):
            if sum(row) in (1, 2):
                self.assertNotEqual(worth_at(("row", row), SUM, begun(3)), mean_at(("row", row), SUM, begun(3)))

    def test_times_and_more(self):
        chooser = random.Random(111)
        for many in (1, 2, 3):
            for draws in drawn.draws_of_all_kinds(chooser, many, 2):
                for score in reference.drawn_scores(112, many, 1, 4):
                    told = drawn.Fraction(*worth_at(draws, score, begun(many)))
                    for v, w in ((0, 3), (2, -5), (7, 0)):
                        other = ("sum", ("times", ("number", v), score), ("number", w))
                        self.assert_same(worth_at(draws, other, begun(many)), pair_of(v * told + w))

    def test_hands_exchanged(self):
        for row in drawn.all_rows(4):
            told = worth_at(("row", row), ("sum", SUM, CELLS[3]), begun(4))
            cells = [("times", ("number", -v), ("not", CELLS[at])) for at, v in enumerate((4, 2, 1, 1))]
            turned = worth_at(("row", tuple(1 - hand for hand in row)), ("sum", *cells), begun(4))
            self.assert_same(turned, (-told[0], told[1]))

    def test_great_draws_and_scores(self):
        chooser = random.Random(113)
        rows = drawn.all_rows(10)
        table = ("table", tuple((row, chooser.randrange(1, drawn.GREAT)) for row in rows))
        draws = ("mix", ((5, table), (3, CHAIN), (drawn.GREAT, COIN), (1, table), (1, table), (2, table)))
        score = ("sum",) + tuple(("sum",) + (("hex", 2, 5), ("y", 4)) * 5 for _ in range(10))
        position = played(chooser, 10, 6)
        self.check(draws, score, position)
        self.assertEqual(len(worth_at(draws, score, played(chooser, 10, 5))), 2)

    def test_by_names(self):
        self.assert_same(worth_at(position=begun(1), score=CELLS[0], draws=COIN), (2, 5))
        self.assert_raises(TooMany(5), worth_at, position=begun(6), score=CELLS[0], draws=COIN)


if __name__ == "__main__":
    unittest.main()
