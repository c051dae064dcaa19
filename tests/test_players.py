import random
import unittest
from itertools import product

import drawn
import outcomes
import playing
import reference
from checks import Checks, any_values
from drawnturns.errors import TooMany, Unfit
from drawnturns.players import choice, player_error
from drawn import CHAIN, COIN, URN
from plays import all_positions, begun, played

CELLS = [("cell", cell) for cell in range(10)]
FAIR = ("coin", 1, 1)
SUM = ("sum", ("times", ("number", 4), CELLS[0]), ("times", ("number", 2), CELLS[1]), CELLS[2])


class TestPlayerError(Checks, unittest.TestCase):
    def check(self, many, value, wanted):
        self.assert_same(player_error(many, value), wanted)
        self.assert_same(playing.player_error(many, value), wanted)

    def test_players(self):
        chooser = random.Random(371)
        for many in range(1, 11):
            for player in playing.some_players(chooser, many) + [("order", tuple(range(many)))]:
                self.check(many, player, None)
            for cell in range(many):
                self.check(many, ("toward", cell), None)

    def test_all_orders_of_few_cells(self):
        for many in (1, 2, 3):
            for size in range(5):
                for cells in product(range(-1, 4), repeat=size):
                    right = sorted(cells) == list(range(many))
                    self.check(many, ("order", cells), None if right else "cells")

    def test_what_has_not_the_form(self):
        for value in (None, (), [], "best", ("best", None), ("best", ()), ("worst", 0), ["best"], ("Best",), ("best ",),
                      ("nearest", 0), ("order",), ("weight",), ("toward",), ("order", (0, 1, 2), None),
                      ("weight", (1, 2, 3), 4), ("toward", 0, 0), (("best",),), (None,), (1, 2), ("", 0), (True, 0),
                      ([], 0), ({}, (0, 1, 2)), {"best": 0}, ("toward", 0, 1, 2), (b"best",)):
            self.check(3, value, "form")

    def test_wrong_cells(self):
        for cells in ((), (0,), (0, 1), (0, 1, 1), (0, 0, 0), (1, 2, 3), (0, 1, 3), (-1, 0, 1), (0, 1, 2, 3),
                      (0, 1, 2, 2),
                      [0, 1, 2], "012", None, 0, (0, True, 2), (False, 1, 2), (0, 1, "2"), (0, 1, None), (0, 1, (2,)),
                      {0: 1, 1: 2, 2: 3}, range(3), (10 ** 400, 0, 1)):
            self.check(3, ("order", cells), "cells")

    def test_wrong_numbers(self):
        most = 10 ** 6
        self.check(3, ("weight", (most, -most, 0)), None)
        for numbers in ((), (1, 2), (1, 2, 3, 4), [1, 2, 3], "123", None, 0, (1, 2, True), (False, 0, 0), (1, 2, "3"),
                        (1, 2, None), (most + 1, 0, 0), (0, 0, -most - 1), (10 ** 400, 0, 0), (1, 2, (3,)), range(3)):
            self.check(3, ("weight", numbers), "numbers")

    def test_wrong_cell(self):
        for cell in (3, -1, True, False, None, "0", (), (0,), [0], 10 ** 400, -10 ** 400):
            self.check(3, ("toward", cell), "cell")
        self.check(10, ("toward", 9), None)
        self.check(10, ("toward", 10), "cell")

    def test_any_values(self):
        for many in (1, 4, 10):
            self.with_any_values(lambda value: self.check(many, value, playing.player_error(many, value)))
            for word, wanted in (("order", "cells"), ("weight", "numbers"), ("toward", "cell")):
                for value in any_values():
                    told = playing.player_error(many, (word, value))
                    self.assertIn(told, (None, wanted))
                    self.check(many, (word, value), told)

    def test_by_names(self):
        self.assert_same(player_error(value=("toward", 2), many=2), "cell")


class TestChoice(Checks, unittest.TestCase):
    def check(self, draws, score, position, hand, player):
        if outcomes.can_be_next(draws, position, hand):
            wanted = playing.choice(draws, score, position, hand, player)
            self.assert_same(choice(draws, score, position, hand, player), wanted)
        else:
            self.assert_raises(Unfit(), choice, draws, score, position, hand, player)

    def test_all_positions_of_few_cells(self):
        chooser = random.Random(381)
        for many in (1, 2, 3):
            scores = reference.drawn_scores(382, many, 2, 60)
            positions = sorted(all_positions(many), key=repr)
            for draws in drawn.draws_of_all_kinds(chooser, many, 1) + drawn.exchangeable_draws(chooser, many)[:4]:
                for position in positions:
                    for player in playing.some_players(chooser, many):
                        self.check(draws, chooser.choice(scores), position, chooser.randrange(2), player)

    def test_more_cells(self):
        chooser = random.Random(383)
        for many in (4, 6, 8, 10):
            scores = reference.drawn_scores(384, many, 2, 20)
            for draws in drawn.draws_of_all_kinds(chooser, many, 2):
                position = played(chooser, many, many - 3)
                for player in playing.some_players(chooser, many):
                    for hand in (0, 1):
                        self.check(draws, chooser.choice(scores), position, hand, player)

    def test_rules_with_ten_empty_cells(self):
        chooser = random.Random(385)
        for draws in (FAIR, CHAIN, URN, ("table", (((0, 1) * 5, 1), ((1,) * 10, 3)))):
            for turns in (0, 1, 4, 9):
                position = played(chooser, 10, turns)
                for player in playing.some_players(chooser, 10)[2:]:
                    for hand in (0, 1):
                        self.check(draws, SUM, position, hand, player)

    def test_best_and_worst_with_ten_empty_cells(self):
        boards = ("sum",) + tuple(("sum",) + (("hex", 2, 5), ("y", 4)) * 5 for _ in range(10))
        for draws in (FAIR, URN, ("bag", 7, 5)):
            for hand in (0, 1):
                self.assert_same(choice(draws, ("y", 4), begun(10), hand, ("best",)), 4)
                self.assert_same(choice(draws, ("y", 4), begun(10), hand, ("worst",)), 0)
                self.assert_same(choice(draws, ("times", CELLS[9], CELLS[3]), begun(10), hand, ("best",)), 3)
                self.assert_same(choice(draws, ("times", CELLS[1], CELLS[0]), begun(10), hand, ("worst",)), 2)
                self.assertIn(choice(draws, boards, begun(10), hand, ("best",)), range(10))

    def test_best_and_worst_with_five_empty_cells(self):
        # Six cells of which the first one is A's: the worth is told by the tree.
        position = ((1,), (1,) + (None,) * 5)
        wish = ("sum", CELLS[3], ("times", CELLS[5], ("number", 2)), ("times", CELLS[2], ("number", -1)))
        for hand in (0, 1):
            self.assert_same(choice(CHAIN, wish, position, hand, ("best",)), 5)
            self.assert_same(choice(CHAIN, wish, position, hand, ("worst",)), 2)
            self.check(CHAIN, wish, position, hand, ("best",))

    def test_ties_by_the_least_cell(self):
        for hand in (0, 1):
            for word in ("best", "worst"):
                self.assert_same(choice(FAIR, ("number", 3), begun(4), hand, (word,)), 0)
                self.assert_same(choice(CHAIN, ("number", 3), ((1,), (1, None, None, None)), hand, (word,)), 1)
            self.assert_same(choice(FAIR, SUM, begun(3), hand, ("weight", (5, 5, 5))), 0)
            self.assert_same(choice(FAIR, SUM, begun(3), hand, ("weight", (-7, 5, 5))), 1)
            self.assert_same(choice(FAIR, SUM, ((1,), (None, 1, None)), hand, ("weight", (-3, 9, -3))), 0)

    def test_cells_equally_near(self):
        five = (None,) * 5
        for hand in (0, 1):
            self.assert_same(choice(FAIR, SUM, ((), five), hand, ("toward", 2)), 2)
            self.assert_same(choice(FAIR, SUM, ((1,), (None, None, 1, None, None)), hand, ("toward", 2)), 1)
            self.assert_same(choice(FAIR, SUM, ((1, 0), (None, 0, 1, None, None)), hand, ("toward", 2)), 3)
            self.assert_same(choice(FAIR, SUM, ((1, 0, 1), (None, 0, 1, 1, None)), hand, ("toward", 2)), 0)
            self.assert_same(choice(FAIR, SUM, ((1,), (1, None, None, None, None)), hand, ("toward", 0)), 1)
            self.assert_same(choice(FAIR, SUM, ((1,), (None, None, None, None, 1)), hand, ("toward", 4)), 3)

    def test_orders(self):
        for hand in (0, 1):
            self.assert_same(choice(CHAIN, SUM, begun(3), hand, ("order", (2, 0, 1))), 2)
            self.assert_same(choice(CHAIN, SUM, ((0,), (None, None, 0)), hand, ("order", (2, 0, 1))), 0)
            self.assert_same(choice(CHAIN, SUM, ((0, 1), (1, None, 0)), hand, ("order", (2, 0, 1))), 1)

    def test_both_hands_have_the_same_best_cells_and_worst_ones(self):
        for hand in (0, 1):
            self.assert_same([choice(FAIR, SUM, begun(3), hand, (word,)) for word in ("best", "worst")], [0, 2])
        self.assert_same([choice(FAIR, ("not", CELLS[1]), begun(3), hand, (word,))
                          for hand in (0, 1) for word in ("best", "worst")], [0, 1, 0, 1])

    def test_no_empty_cell_or_a_hand_that_cannot_be_next(self):
        players = playing.some_players(random.Random(386), 3)
        for draws, position, hand in (
            (FAIR, ((1, 0, 1), (1, 0, 1)), 1), (FAIR, ((1, 0, 1), (1, 0, 1)), 0),
            (("row", (1, 0, 0)), begun(3), 0), (("row", (1, 0, 0)), ((1,), (1, None, None)), 1),
            (("row", (1, 0, 0)), ((0,), (0, None, None)), 0), (("coin", 1, 0), begun(3), 0),
            (("coin", 1, 0), ((0,), (None, 0, None)), 1), (("bag", 1, 2), ((1,), (1, None, None)), 1),
            (("bag", 1, 2), ((1, 1), (1, None, 1)), 0), (("urn", 0, 1, 1), begun(3), 1),
        ):
            for player in players:
                self.assert_raises(Unfit(), choice, draws, SUM, position, hand, player)

    def test_too_many_for_best_and_worst_alone(self):
        for many in range(6, 11):
            for player in (("best",), ("worst",)):
                for hand in (0, 1):
                    self.assert_raises(TooMany(5), choice, CHAIN, SUM, begun(many), hand, player)
                    self.assertEqual(choice(CHAIN, SUM, begun(many), hand, ("toward", 4)), 4)
            position = ((1,) * (many - 5), (1,) * (many - 5) + (None,) * 5)
            self.assert_same(choice(CHAIN, CELLS[many - 1], position, 0, ("best",)), many - 1)
        self.assert_raises(TooMany(5), choice, CHAIN, SUM, ((1,), (1,) + (None,) * 6), 1, ("worst",))

    def test_unfit_ahead_of_too_many(self):
        for many in range(6, 11):
            draws = ("row", (1, 0) + (1,) * (many - 2))
            for player in (("best",), ("worst",)):
                self.assert_raises(Unfit(), choice, draws, SUM, begun(many), 0, player)
                self.assert_raises(TooMany(5), choice, draws, SUM, begun(many), 1, player)

    def test_by_names(self):
        self.assert_same(choice(player=("worst",), hand=0, position=begun(3), score=SUM, draws=COIN), 2)


if __name__ == "__main__":
    unittest.main()
