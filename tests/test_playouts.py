import random
import unittest
from fractions import Fraction

import playing
from checks import Checks
from drawnturns.errors import TooMany
from drawnturns.gametree import worth_at
from drawnturns.means import mean_at
from drawnturns.playouts import outcome, reply
from drawn import CHAIN, COIN, pair_of
from plays import begun

CELLS = [("cell", cell) for cell in range(10)]
FAIR = ("coin", 1, 1)
SUM = ("sum", ("times", ("number", 4), CELLS[0]), ("times", ("number", 2), CELLS[1]), CELLS[2])
UP, DOWN = ("order", (0, 1, 2)), ("order", (2, 1, 0))


class TestOutcome(Checks, unittest.TestCase):
    def check(self, many, draws, score, one, other):
        wanted = pair_of(Fraction(playing.outcome(many, draws, score, one, other)))
        self.assert_same(outcome(many, draws, score, one, other), wanted)

    def test_all_pairs_of_kinds_beside_a_play_turn_by_turn(self):
        chooser = random.Random(401)
        for many, draws, score in playing.cases(402, (1, 2, 3), 2) + playing.even_cases(403, (2, 3)):
            players = playing.some_players(chooser, many)
            for one in players:
                self.check(many, draws, score, one, chooser.choice(players))
                self.check(many, draws, score, chooser.choice(players), one)

    def test_four_cells_and_five(self):
        chooser = random.Random(404)
        for many, draws, score in playing.cases(405, (4, 5), 1):
            for one, other in zip(playing.some_players(chooser, many), playing.some_players(chooser, many)[::-1]):
                self.check(many, draws, score, one, other)

    def test_with_exchangeable_draws_best_is_at_least_the_mean(self):
        chooser = random.Random(406)
        above = 0
        for many, draws, score in playing.even_cases(407, (1, 2, 3, 4, 5)):
            mean = Fraction(*mean_at(draws, score, begun(many)))
            best = ("best",)
            self.assert_same(outcome(many, draws, score, best, best), pair_of(mean))
            for player in playing.some_players(chooser, many):
                told = Fraction(*outcome(many, draws, score, best, player))
                self.assertGreaterEqual(told, mean)
                above += told > mean
                self.assertLessEqual(Fraction(*outcome(many, draws, score, player, best)), mean)
                if player[0] not in ("best", "worst"):
                    self.assert_same(outcome(many, draws, score, player, player), pair_of(mean))
        self.assertGreater(above, 10)

    def test_by_hand(self):
        for row, wanted in (((1, 1, 1), 7), ((1, 0, 0), 4), ((0, 1, 0), 2), ((0, 0, 1), 1), ((1, 0, 1), 5)):
            self.assert_same(outcome(3, ("row", row), SUM, ("best",), ("best",)), (wanted, 1))
            self.assert_same(outcome(3, ("row", row), SUM, UP, UP), (wanted, 1))
        for row, wanted in (((1, 0, 0), 1), ((0, 1, 0), 2), ((0, 0, 1), 4), ((1, 1, 0), 3)):
            self.assert_same(outcome(3, ("row", row), SUM, DOWN, DOWN), (wanted, 1))
        # A takes what is best for B, and B what is best for A.
        self.assert_same(outcome(3, ("row", (1, 0, 1)), SUM, ("worst",), ("best",)), (3, 1))
        self.assert_same(outcome(3, ("row", (1, 0, 1)), SUM, ("best",), ("worst",)), (6, 1))
        self.assert_same(outcome(3, ("table", (((0, 1, 1), 1), ((1, 0, 0), 2))), SUM, UP, DOWN), (14, 3))

    def test_one_hand_alone(self):
        for hand in (0, 1):
            draws = ("coin", hand, 1 - hand)
            for player in (UP, DOWN, ("best",), ("worst",), ("toward", 1), ("weight", (0, 0, 0))):
                self.assert_same(outcome(3, draws, SUM, player, ("best",)), (7 * hand, 1))
                self.assert_same(outcome(3, draws, SUM, ("worst",), player), (7 * hand, 1))

    def test_hands_exchanged(self):
        chooser = random.Random(408)
        checked = 0
        for many, draws, score in playing.cases(409, (2, 3), 4):
            if "'hex'" in repr(score):
                continue
            checked += 1
            for one in playing.some_players(chooser, many):
                other = chooser.choice(playing.some_players(chooser, many))
                told = outcome(many, draws, score, one, other)
                turned = outcome(many, playing.turned_draws(draws), playing.turned_score(score), other, one)
                self.assert_same(turned, (-told[0], told[1]))
        self.assertGreater(checked, 20)

    def test_too_many(self):
        players = [("best",), ("worst",), ("toward", 0)]
        for many in range(6, 11):
            for draws in (FAIR, CHAIN, ("row", (1,) * many)):
                for one in players:
                    for other in players:
                        self.assert_raises(TooMany(5), outcome, many, draws, CELLS[0], one, other)

    def test_by_names(self):
        self.assert_same(outcome(other=DOWN, one=UP, score=SUM, draws=("row", (1, 0, 0)), many=3), (4, 1))


class TestReply(Checks, unittest.TestCase):
    def check(self, many, draws, score, player, hand):
        wanted = pair_of(playing.reply(draws, score, player, hand, begun(many)))
        self.assert_same(reply(many, draws, score, player, hand), wanted)

    def test_beside_a_search_of_its_own(self):
        chooser = random.Random(411)
        for many, draws, score in playing.cases(412, (1, 2, 3), 2) + playing.even_cases(413, (2, 3)):
            for player in playing.some_players(chooser, many):
                for hand in (0, 1):
                    self.check(many, draws, score, player, hand)

    def test_four_cells_and_five(self):
        chooser = random.Random(414)
        for many, draws, score in playing.cases(415, (4, 5), 1):
            for player in playing.some_players(chooser, many):
                self.check(many, draws, score, player, chooser.randrange(2))

    def test_it_is_worth_at_against_the_best(self):
        for many, draws, score in playing.cases(416, (1, 2, 3, 4, 5), 1) + playing.even_cases(417, (3, 5)):
            for hand in (0, 1):
                self.assert_same(reply(many, draws, score, ("best",), hand), worth_at(draws, score, begun(many)))

    def test_bounds(self):
        chooser = random.Random(418)
        below = 0
        for many, draws, score in playing.cases(419, (2, 3, 4), 2) + playing.even_cases(420, (3, 5)):
            worth = Fraction(*worth_at(draws, score, begun(many)))
            players = playing.some_players(chooser, many)
            for one in players:
                other = chooser.choice(players)
                low, high = Fraction(*reply(many, draws, score, one, 1)), Fraction(*reply(many, draws, score, other, 0))
                self.assertLessEqual(low, worth)
                self.assertGreaterEqual(high, worth)
                self.assertTrue(low <= Fraction(*outcome(many, draws, score, one, other)) <= high)
                below += low < worth
        self.assertGreater(below, 20)

    def test_by_hand(self):
        # A takes 2, 1, 0: B, who may take any, takes 0 as soon as it can.
        for row, wanted in (((1, 0, 0), 1), ((1, 1, 0), 3), ((0, 1, 1), 3), ((1, 0, 1), 3), ((1, 1, 1), 7)):
            self.assert_same(reply(3, ("row", row), SUM, DOWN, 1), (wanted, 1))
        # B takes them so, and A what is left.
        for row, wanted in (((1, 0, 0), 4), ((0, 1, 0), 4), ((0, 0, 1), 4), ((1, 1, 0), 6), ((0, 0, 0), 0)):
            self.assert_same(reply(3, ("row", row), SUM, DOWN, 0), (wanted, 1))

    def test_too_many(self):
        for many in range(6, 11):
            for draws in (FAIR, CHAIN, ("row", (1,) * many)):
                for player in (("best",), ("worst",), ("toward", 0)):
                    for hand in (0, 1):
                        self.assert_raises(TooMany(5), reply, many, draws, CELLS[0], player, hand)

    def test_by_names(self):
        self.assert_same(reply(hand=0, player=DOWN, score=SUM, draws=("row", (0, 0, 1)), many=3), (4, 1))
        self.assert_same(reply(hand=1, player=DOWN, score=SUM, draws=COIN, many=3),
                         pair_of(playing.reply(COIN, SUM, DOWN, 1, begun(3))))


if __name__ == "__main__":
    unittest.main()
