import random
import unittest
from fractions import Fraction
from math import comb

import drawn
import playing
import reference
from checks import Checks
from drawnturns.errors import TooMany, Unfit
from drawnturns.fullboards import full_chances, weight_of
from drawnturns.means import mean_at
from drawnturns.playouts import outcome
from drawnturns.scoring import worth_of
from drawn import BAG, CHAIN, COIN, URN, pair_of
from plays import all_boards, begun

CELLS = [("cell", cell) for cell in range(10)]
FAIR = ("coin", 1, 1)
SUM = ("sum", ("times", ("number", 4), CELLS[0]), ("times", ("number", 2), CELLS[1]), CELLS[2])


class TestWeightOf(Checks, unittest.TestCase):
    def test_beside_numbers_of_turns_parted_evenly(self):
        chooser = random.Random(421)
        seen = set()
        for many in (1, 2, 3, 4):
            for draws in drawn.draws_of_all_kinds(chooser, many, 4) + drawn.exchangeable_draws(chooser, many):
                even = drawn.least_parting_rows(many, draws) is None
                seen.add((draws[0], even))
                numbers = [Fraction(0)] * (many + 1)
                for row, told in drawn.whole_chances(many, draws).items():
                    numbers[sum(row)] += told
                for board in all_boards(many):
                    if even:
                        wanted = pair_of(numbers[sum(board)] / comb(many, sum(board)))
                        self.assert_same(weight_of(many, draws, board), wanted)
                    else:
                        self.assert_raises(Unfit(), weight_of, many, draws, board)
        self.assertLessEqual({("chain", False), ("row", True), ("row", False), ("mix", True), ("table", False)}, seen)

    def test_together_they_are_1_and_the_mean_is_their_sum(self):
        for many, draws, score in playing.even_cases(422, (1, 2, 3, 5)):
            weights = {board: Fraction(*weight_of(many, draws, board)) for board in all_boards(many)}
            self.assertEqual(sum(weights.values()), 1)
            mean = sum(told * reference.worth_of(score, board) for board, told in weights.items())
            self.assert_same(mean_at(draws, score, begun(many)), pair_of(mean))
            for board in weights:
                self.assertEqual(weights[board], weights[tuple(sorted(board))])

    def test_ten_cells(self):
        self.assert_same(weight_of(10, FAIR, (1, 0) * 5), (1, 1024))
        self.assert_same(weight_of(10, COIN, (1,) + (0,) * 9), pair_of(Fraction(2, 5) * Fraction(3, 5) ** 9))
        self.assert_same(weight_of(10, ("bag", 5, 5), (0, 1) * 5), (1, 252))
        self.assert_same(weight_of(10, ("bag", 5, 5), (0, 1) * 4 + (0, 0)), (0, 1))
        self.assert_same(weight_of(10, ("urn", 1, 1, 1), (1,) * 3 + (0,) * 7), (1, 11 * 120))
        self.assert_same(weight_of(10, ("row", (1,) * 10), (1,) * 10), (1, 1))
        self.assert_same(weight_of(10, ("row", (1,) * 10), (0,) * 10), (0, 1))
        chits = ("mix", tuple((place + 1, ("bag", 5 + place, 9)) for place in range(6)))
        told = [weight_of(10, chits, (1,) * k + (0,) * (10 - k)) for k in range(11)]
        self.assertEqual(sum(comb(10, k) * Fraction(*told[k]) for k in range(11)), 1)

    def test_draws_that_are_not_exchangeable(self):
        for draws in (("row", (1, 0, 0)), CHAIN, ("table", (((0, 1, 0), 1), ((1, 0, 0), 1)))):
            for board in all_boards(3):
                self.assert_raises(Unfit(), weight_of, 3, draws, board)
        self.assert_raises(Unfit(), weight_of, 10, CHAIN, (1,) * 10)
        self.assert_raises(Unfit(), weight_of, 10, ("row", (1,) * 9 + (0,)), (1,) * 10)

    def test_by_names(self):
        self.assert_same(weight_of(board=(1, 0), draws=COIN, many=2), (6, 25))


class TestFullChances(Checks, unittest.TestCase):
    def check(self, many, draws, score, one, other):
        told = full_chances(many, draws, score, one, other)
        wanted = playing.played_boards(many, draws, score, one, other)
        self.assert_same(told, tuple((board, pair_of(wanted[board])) for board in sorted(wanted)))
        self.assertEqual(sum(Fraction(*share) for _, share in told), 1)
        mean = sum(Fraction(*share) * worth_of(score, board) for board, share in told)
        self.assert_same(outcome(many, draws, score, one, other), pair_of(mean))
        rows = [row for row, share in drawn.whole_chances(many, draws).items() if share]
        self.assertLessEqual(len(told), len(rows))
        return told

    def test_beside_a_play_turn_by_turn(self):
        chooser = random.Random(423)
        for many, draws, score in playing.cases(424, (1, 2, 3), 2) + playing.even_cases(425, (2, 3)):
            players = playing.some_players(chooser, many)
            for one in players:
                self.check(many, draws, score, one, chooser.choice(players))
                self.check(many, draws, score, chooser.choice(players), one)

    def test_four_cells_and_five(self):
        chooser = random.Random(426)
        for many, draws, score in playing.cases(427, (4, 5), 1):
            players = playing.some_players(chooser, many)
            self.check(many, draws, score, chooser.choice(players), chooser.choice(players))

    def test_with_exchangeable_draws_and_one_player_boards_have_their_weights(self):
        chooser = random.Random(428)
        for many, draws, score in playing.even_cases(429, (1, 2, 3, 4, 5)):
            boards = [(board, weight_of(many, draws, board)) for board in all_boards(many)]
            wanted = tuple(pair for pair in boards if pair[1][0] > 0)
            for player in playing.some_players(chooser, many):
                if player[0] != "worst":
                    self.assert_same(full_chances(many, draws, score, player, player), wanted)

    def test_by_hand(self):
        up, down = ("order", (0, 1, 2)), ("order", (2, 1, 0))
        for row, board in (
            ((1, 0, 0), (1, 0, 0)), ((0, 1, 0), (1, 0, 0)), ((0, 0, 1), (1, 0, 0)), ((1, 1, 0), (1, 1, 0)),
        ):
            self.assert_same(full_chances(3, ("row", row), SUM, up, down), ((board, (1, 1)),))
        self.assert_same(full_chances(3, ("row", (1, 0, 1)), SUM, ("worst",), ("best",)), (((0, 1, 1), (1, 1)),))
        told = ((0, 0, 0), (1, 8)), ((1, 0, 0), (3, 8)), ((1, 1, 0), (3, 8)), ((1, 1, 1), (1, 8))
        self.assert_same(full_chances(3, FAIR, SUM, up, down), told)

    def test_boards_that_do_not_come(self):
        self.assert_same(full_chances(2, ("coin", 1, 0), SUM[:2], ("best",), ("worst",)), (((1, 1), (1, 1)),))
        self.assert_same(full_chances(2, ("bag", 1, 1), ("y", 1), ("best",), ("best",)),
                         (((0, 1), (1, 2)), ((1, 0), (1, 2))))
        swap = ("table", (((0, 1), 1), ((1, 0), 2)))
        self.assert_same(full_chances(2, swap, ("y", 1), ("best",), ("best",)), (((0, 1), (1, 3)), ((1, 0), (2, 3))))
        self.assert_same(full_chances(2, swap, ("y", 1), ("worst",), ("best",)), (((0, 1), (1, 1)),))

    def test_too_many(self):
        for many in range(6, 11):
            for draws in (FAIR, BAG, URN, CHAIN, ("row", (1,) * many)):
                for one in (("best",), ("toward", 0)):
                    self.assert_raises(TooMany(5), full_chances, many, draws, CELLS[0], one, ("worst",))

    def test_by_names(self):
        self.assert_same(full_chances(other=("toward", 1), one=("toward", 0), score=CELLS[0], draws=("row", (0, 1)),
                                      many=2),
                         (((1, 0), (1, 1)),))


if __name__ == "__main__":
    unittest.main()
