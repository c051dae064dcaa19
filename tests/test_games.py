import random
import unittest
from fractions import Fraction

import drawn
import outcomes
import reference
from checks import Checks, any_values, same
from drawnturns import errors
from drawnturns.bestcells import best_cells
from drawnturns.drawing import chance, is_exchangeable
from drawnturns.errors import BadDraws, BadScore, NothingToUndo, TooMany, TooManyEdits, Unfit
from drawnturns.games import Game
from drawnturns.means import mean_at
from drawnturns.positions import position_error
from drawn import CHAIN, COIN, URN
from gaming import Model, edit_by, some_edit, state
from plays import begun

CELLS = [("cell", cell) for cell in range(10)]
FAIR = ("coin", 1, 1)
WISH = ("sum", CELLS[0], CELLS[0], CELLS[1])


class TestNewGames(Checks, unittest.TestCase):
    def test_what_is_set(self):
        chooser = random.Random(431)
        for many in range(1, 11):
            for draws in drawn.draws_of_all_kinds(chooser, many, 1):
                score = chooser.choice(reference.drawn_scores(432, many, 2, 10))
                game = Game(many, draws, score)
                self.assert_same(state(game), (many, draws, score, ((), (None,) * many), None, (), 0))

    def test_each_game_has_its_own(self):
        one, other = Game(2, FAIR, WISH), Game(2, FAIR, WISH)
        one.drawn(1)
        self.assert_same((other.hand, other.edits, other.version), (None, (), 0))

    def test_many(self):
        for many in (0, -1, 11, 10 ** 400, True, False, None, "2", (2,), [2], 2.0):
            self.assert_raises(Unfit(), Game, many, FAIR, WISH)
        for many in (1, 10):
            self.assert_same(Game(many, FAIR, CELLS[0]).many, many)

    def test_any_values(self):
        def check_many(value):
            if reference.is_integer(value) and 1 <= value <= 10:
                self.assert_same(Game(value, FAIR, ("number", 1)).many, value)
            else:
                self.assert_raises(Unfit(), Game, value, FAIR, ("number", 1))

        def check_draws(value):
            error = drawn.draws_error(2, value)
            self.assertIsNotNone(error)
            self.assert_raises(BadDraws(error), Game, 2, value, WISH)

        def check_score(value):
            error = reference.score_error(2, value)
            self.assertIsNotNone(error)
            self.assert_raises(BadScore(error), Game, 2, FAIR, value)

        for check in (check_many, check_draws, check_score):
            self.with_any_values(check)

    def test_wrong_draws_and_scores(self):
        for draws in (("coin", 0, 0), ("bag", 1, 0), ("row", (1,)), ("row", [1, 0]), ("mix", ((1, ("row", (1,))),)),
                      ("table", ()), ["coin", 1, 1], ("coin", True, 1), ("table", (((1, 0), 1), ((0, 1), 1)))):
            self.assert_raises(BadDraws(drawn.draws_error(2, draws)), Game, 2, draws, WISH)
        for score in (("cell", 2), ("sum",), ("not", ("cell", 2)), ["cell", 0], ("y", 2), ("number", 10 ** 6 + 1)):
            self.assert_raises(BadScore(reference.score_error(2, score)), Game, 2, FAIR, score)

    def test_errors_in_their_order(self):
        for many in (0, 11, None, True):
            self.assert_raises(Unfit(), Game, many, ("coin", 0, 0), ("cell", 99))
            self.assert_raises(Unfit(), Game, many, None, None)
        self.assert_raises(BadDraws("numbers"), Game, 2, ("coin", 0, 0), ("cell", 99))
        self.assert_raises(BadDraws("form"), Game, 2, None, None)
        self.assert_raises(BadScore(("cell", ())), Game, 2, FAIR, ("cell", 99))
        self.assert_raises(BadScore(("form", ())), Game, 2, FAIR, None)

    def test_games_are_no_draws_or_scores(self):
        game = Game(2, FAIR, WISH)
        self.assert_raises(Unfit(), Game, game, FAIR, WISH)
        self.assert_raises(BadDraws("form"), Game, 2, game, WISH)
        self.assert_raises(BadDraws("form"), Game, 2, (game, 1, 1), WISH)
        self.assert_raises(BadDraws("numbers"), Game, 2, ("coin", game, 1), WISH)
        self.assert_raises(BadDraws(("part", 0, "form")), Game, 2, ("mix", ((1, (game,)),)), WISH)
        self.assert_raises(BadScore(("form", (0,))), Game, 2, FAIR, ("not", game))
        for call in (game.drawn, game.put):
            self.assert_raises(Unfit(), call, game)
        self.assert_raises(BadScore(("cell", ())), game.rescore, ("cell", game))

    def test_by_names(self):
        game = Game(score=WISH, draws=FAIR, many=2)
        self.assert_same(state(game), state(Game(2, FAIR, WISH)))
        self.assert_raises(BadScore(("form", ())), Game, score=None, draws=FAIR, many=2)


class TestEdits(Checks, unittest.TestCase):
    def check_raises(self, game, wanted, call, *told, **named):
        """The call raises the error, and changes nothing."""
        ahead, mean = state(game), game.mean()
        self.assert_raises(wanted, call, *told, **named)
        self.assert_same(state(game), ahead)
        self.assert_same(game.mean(), mean)

    def test_games_beside_one_of_its_own(self):
        chooser = random.Random(441)
        seen = {"undone": 0, None: 0, "Unfit": 0}
        for many in (1, 2, 3, 5):
            scores = reference.drawn_scores(442, many, 2, 10)
            for draws in drawn.draws_of_all_kinds(chooser, many, 2):
                game, model = Game(many, draws, scores[0]), Model(many, draws, scores[0])
                for _ in range(60):
                    if chooser.randrange(8) == 0 and model.edits:
                        model.undo()
                        self.assert_same(game.undo(), len(model.edits))
                        seen["undone"] += 1
                    else:
                        edit = some_edit(chooser, game, scores)
                        error = model.can(edit)
                        seen[None if error is None else "Unfit"] += 1
                        if error is None:
                            model.do(edit)
                            self.assert_same(edit_by(game, edit), len(model.edits))
                        else:
                            self.check_raises(game, error, edit_by, game, edit)
                    self.assert_same(state(game), model.state())
                self.check_what_holds(game)
        self.assertGreater(min(seen.values()), 100)

    def check_what_holds(self, game):
        self.assertIsNone(position_error(game.many, game.position))
        self.assertGreater(chance(game.many, game.draws, game.position[0])[0], 0)
        if game.hand is not None:
            self.assertTrue(outcomes.can_be_next(game.draws, game.position, game.hand))
        for word in ("drawn", "put"):
            self.assertLessEqual([edit[0] for edit in game.edits].count(word), game.many)

    def test_drawn(self):
        game = Game(2, FAIR, WISH)
        self.assert_same([game.drawn(1), game.hand, game.edits, game.position], [1, 1, (("drawn", 1),), begun(2)])
        for hand in (0, 1):
            self.check_raises(game, Unfit(), game.drawn, hand)
        game.put(0)
        self.assert_same([game.drawn(0), game.hand], [3, 0])
        game.put(1)
        for hand in (0, 1):
            self.check_raises(game, Unfit(), game.drawn, hand)

    def test_drawn_hands_that_cannot_be_next(self):
        for draws, row, hand in (
            (("row", (1, 0, 0)), (), 0), (("row", (1, 0, 0)), (1,), 1), (("coin", 1, 0), (1,), 0),
            (("coin", 0, 1), (), 1),
            (("bag", 1, 2), (1,), 1), (("urn", 0, 1, 5), (), 1), (("chain", (1, 1), (1, 0), (0, 1)), (1,), 0),
            (("table", (((0, 0, 1), 1), ((1, 1, 1), 1))), (0,), 1), (("bag", 2, 1), (0,), 0),
        ):
            game = Game(3, draws, WISH)
            for cell, told in enumerate(row):
                game.drawn(told)
                game.put(cell)
            self.check_raises(game, Unfit(), game.drawn, hand)
            self.assert_same(game.drawn(1 - hand), 2 * len(row) + 1)

    def test_put(self):
        game = Game(3, FAIR, WISH)
        for cell in (0, 1, 2, -1, 3):
            self.check_raises(game, Unfit(), game.put, cell)
        game.drawn(0)
        for cell in (-1, 3, True, False, None, "0", (0,)):
            self.check_raises(game, Unfit(), game.put, cell)
        self.assert_same([game.put(2), game.hand, game.position], [2, None, ((0,), (None, None, 0))])
        self.check_raises(game, Unfit(), game.put, 1)
        game.drawn(1)
        self.check_raises(game, Unfit(), game.put, 2)
        self.assert_same([game.put(0), game.position], [4, ((0, 1), (1, None, 0))])

    def test_rescore(self):
        game = Game(2, FAIR, WISH)
        for place, score in enumerate((CELLS[1], WISH, WISH, ("number", 0))):
            self.assert_same([game.rescore(score), game.score], [place + 1, score])
        for score in (None, ("cell", 2), ["cell", 0], ("sum",), ("y", 2)):
            self.check_raises(game, BadScore(reference.score_error(2, score)), game.rescore, score)
        game.drawn(1)
        self.assert_same([game.rescore(CELLS[0]), game.hand], [6, 1])
        game.put(1)
        game.drawn(0)
        game.put(0)
        self.assert_same([game.rescore(CELLS[1]), game.worth(), game.rescore(CELLS[0]), game.worth()], [10, 1, 11, 0])

    def test_any_values_at_each_stage(self):
        stages = [(), (("drawn", 1),), (("drawn", 1), ("put", 2)), (("drawn", 1), ("put", 2), ("drawn", 0)),
                  tuple(edit for cell in range(3) for edit in (("drawn", 1), ("put", cell)))]
        for edits in stages:
            def check(value):
                game = Game(3, FAIR, CELLS[0])
                model = Model(3, FAIR, CELLS[0])
                for edit in edits:
                    edit_by(game, edit)
                    model.do(edit)
                for word in ("drawn", "put", "rescore"):
                    right = reference.is_integer(value) and (word == "put" or 0 <= value <= 1)
                    error = model.can((word, value)) if word == "rescore" or right else Unfit()
                    if error is None:
                        self.assertEqual(edit_by(game.twin(), (word, value)), len(edits) + 1)
                    else:
                        self.check_raises(game, error, edit_by, game, (word, value))

            self.with_any_values(check)

    def test_too_many_edits(self):
        game = Game(10, FAIR, CELLS[0])
        for place in range(100):
            self.assert_same(game.rescore(CELLS[place % 10]), place + 1)
        self.check_raises(game, TooManyEdits(), game.rescore, CELLS[0])
        self.check_raises(game, TooManyEdits(), game.drawn, 1)
        # The errors ahead of it are told first.
        self.check_raises(game, BadScore(("cell", ())), game.rescore, ("cell", 10))
        for hand in (2, True, None):
            self.check_raises(game, Unfit(), game.drawn, hand)
        self.check_raises(game, Unfit(), game.put, 0)
        # One edit taken back makes room for one.
        self.assert_same([game.undo(), game.drawn(0), game.hand], [99, 100, 0])
        self.check_raises(game, TooManyEdits(), game.put, 0)
        self.check_raises(game, Unfit(), game.put, 10)
        self.check_raises(game, Unfit(), game.drawn, 0)
        self.check_raises(game, TooManyEdits(), game.rescore, CELLS[1])
        self.assert_same([game.undo(), game.undo(), game.drawn(1), game.put(3)], [99, 98, 99, 100])
        self.check_raises(game, Unfit(), game.put, 4)
        self.check_raises(game, TooManyEdits(), game.drawn, 1)
        self.assert_same([game.version, len(game.edits)], [100, 100])

    def test_undo(self):
        game = Game(2, COIN, WISH)
        self.check_raises(game, NothingToUndo(), game.undo)
        ahead = []
        for edit in (("drawn", 1), ("rescore", CELLS[1]), ("put", 1), ("rescore", WISH), ("drawn", 0), ("put", 0),
                     ("rescore", CELLS[0]), ("rescore", CELLS[0])):
            ahead.append(state(game))
            edit_by(game, edit)
        for place in range(7, -1, -1):
            self.assert_same(game.undo(), place)
            self.assert_same(state(game), ahead[place])
        self.check_raises(game, NothingToUndo(), game.undo)
        self.assert_same([game.drawn(0), game.edits], [1, (("drawn", 0),)])

    def test_undo_of_a_hundred(self):
        game = Game(10, FAIR, CELLS[0])
        for cell in range(10):
            game.drawn(cell % 2)
            game.put(cell)
        for place in range(80):
            game.rescore(("number", place))
        for place in range(99, -1, -1):
            self.assert_same(game.undo(), place)
        self.assert_same(state(game), state(Game(10, FAIR, CELLS[0])))

    def test_what_was_returned_does_not_change(self):
        game = Game(2, FAIR, WISH)
        game.drawn(1)
        kept = state(game)
        known = (2, FAIR, WISH, begun(2), 1, (("drawn", 1),), 1)
        game.put(0)
        game.rescore(CELLS[0])
        game.undo()
        game.undo()
        game.undo()
        self.assert_same(kept, known)

    def test_by_names(self):
        game = Game(2, FAIR, WISH)
        self.assert_same([game.drawn(hand=1), game.put(cell=1), game.rescore(score=CELLS[0])], [1, 2, 3])
        self.check_raises(game, Unfit(), game.put, cell=0)
        self.check_raises(game, Unfit(), game.drawn, hand=2)
        self.check_raises(game, BadScore(("form", ())), game.rescore, score=None)


class TestAsked(Checks, unittest.TestCase):
    def test_mean_best_and_worth_all_along(self):
        chooser = random.Random(451)
        for many in (1, 3, 5, 7):
            scores = reference.drawn_scores(452, many, 2, 10)
            for draws in drawn.draws_of_all_kinds(chooser, many, 1) + [FAIR, URN]:
                game = Game(many, draws, chooser.choice(scores))
                while outcomes.empty_in(game.position):
                    self.check_asked(game)
                    hands = [hand for hand, _ in outcomes.next_hands(draws, game.position[0])]
                    game.drawn(chooser.choice(hands))
                    self.check_asked(game)
                    game.put(chooser.choice(outcomes.empty_in(game.position)))
                    if chooser.randrange(3) == 0:
                        game.rescore(chooser.choice(scores))
                self.check_asked(game)
                self.assert_same(game.worth(), reference.worth_of(game.score, game.position[1]))
                self.assert_same(game.mean(), (game.worth(), 1))

    def check_asked(self, game):
        """What is asked is as told, and changes nothing."""
        ahead = state(game)
        self.assert_same(game.mean(), mean_at(game.draws, game.score, game.position))
        if game.hand is None:
            self.assert_raises(Unfit(), game.best)
        elif is_exchangeable(game.many, game.draws) or len(outcomes.empty_in(game.position)) <= 5:
            self.assert_same(game.best(), best_cells(game.draws, game.score, game.position, game.hand))
        else:
            self.assert_raises(TooMany(5), game.best)
        if outcomes.empty_in(game.position):
            self.assert_raises(Unfit(), game.worth)
        self.assert_same(state(game), ahead)

    def test_means_by_what_is_taken(self):
        chooser = random.Random(453)
        for many in (2, 3, 5):
            scores = reference.drawn_scores(454, many, 2, 10)
            for draws in drawn.exchangeable_draws(chooser, many):
                game = Game(many, draws, chooser.choice(scores))
                shares = dict(outcomes.next_hands(draws, ()))
                if len(shares) < 2:
                    continue
                means = {}
                for hand in (0, 1):
                    for cell in range(many):
                        other = game.twin()
                        other.drawn(hand)
                        best = other.best()
                        other.put(cell)
                        means[hand, cell] = Fraction(*other.mean())
                    told = [means[hand, cell] for cell in range(many)]
                    wanted = max(told) if hand else min(told)
                    self.assertEqual(best, tuple(cell for cell in range(many) if told[cell] == wanted))
                for cell in range(many):
                    mean = shares[1] * means[1, cell] + shares[0] * means[0, cell]
                    self.assertEqual(mean, Fraction(*game.mean()))

    def test_too_many_for_best(self):
        game = Game(10, CHAIN, CELLS[9])
        self.assert_raises(Unfit(), game.best)
        game.drawn(1)
        self.assert_raises(TooMany(5), game.best)
        for cell in range(4):
            game.put(cell)
            game.drawn(0)
            self.assert_raises(TooMany(5), game.best)
        game.put(4)
        self.assert_raises(Unfit(), game.best)
        game.drawn(1)
        self.assert_same(game.best(), (9,))

    def test_ten_cells_all_through(self):
        game = Game(10, URN, ("y", 4))
        for turn in range(10):
            game.drawn(turn % 2)
            cells = game.best()
            self.assert_same(cells, best_cells(URN, ("y", 4), game.position, game.hand))
            game.put(cells[0])
        self.assertIn(game.worth(), (0, 1))
        self.assert_same(game.version, 20)


class TestTwins(Checks, unittest.TestCase):
    def test_they_do_not_change_with_one_another(self):
        game = Game(3, FAIR, WISH)
        game.drawn(1)
        game.rescore(CELLS[0])
        other = game.twin()
        self.assert_same(state(other), state(game))
        self.assertIsNot(other, game)
        self.assertIs(type(other), Game)
        ahead = state(game)
        other.put(0)
        other.rescore(CELLS[2])
        self.assert_same(state(game), ahead)
        kept = state(other)
        game.undo()
        game.undo()
        game.drawn(0)
        game.put(2)
        self.assert_same(state(other), kept)

    def test_undo_in_a_twin(self):
        game = Game(2, FAIR, WISH)
        states = [state(game)]
        for edit in (("drawn", 1), ("rescore", CELLS[1]), ("put", 1), ("drawn", 0), ("put", 0), ("rescore", WISH)):
            edit_by(game, edit)
            states.append(state(game))
        other = game.twin()
        third = other.twin()
        for place in range(5, -1, -1):
            self.assert_same(other.undo(), place)
            self.assert_same(state(other), states[place])
        self.assert_raises(NothingToUndo(), other.undo)
        self.assert_same(state(game), states[-1])
        self.assert_same([third.undo(), game.undo(), state(game) == state(third)], [5, 5, True])

    def test_twins_of_new_games_and_full_ones(self):
        game = Game(1, FAIR, CELLS[0])
        self.assert_same(state(game.twin()), state(game))
        self.assert_raises(NothingToUndo(), game.twin().undo)
        game.drawn(1)
        game.put(0)
        self.assert_same([game.twin().worth(), game.twin().undo(), game.version], [1, 1, 2])

    def test_twins_of_a_hundred_edits(self):
        game = Game(10, FAIR, CELLS[0])
        for place in range(100):
            game.rescore(CELLS[place % 10])
        twins = [game]
        for _ in range(50):
            twins.append(twins[-1].twin())
        self.assert_raises(TooManyEdits(), twins[-1].rescore, CELLS[0])
        self.assert_same([twins[-1].undo(), twins[-1].drawn(0)], [99, 100])
        self.assertTrue(all(same(state(one), state(game)) for one in twins[:-1]))


class TestEqual(Checks, unittest.TestCase):
    def check(self, one, other, wanted):
        for first, second in ((one, other), (other, one)):
            self.assertIs(first == second, wanted)
            self.assertIs(first != second, not wanted)

    def test_games_that_differ_in_one_thing(self):
        game = Game(2, FAIR, WISH)
        self.check(game, game, True)
        self.check(game, Game(2, ("coin", 1, 1), ("sum", CELLS[0], CELLS[0], CELLS[1])), True)
        self.check(game, Game(3, FAIR, WISH), False)
        self.check(game, Game(2, ("coin", 2, 2), WISH), False)
        self.check(game, Game(2, FAIR, ("sum", CELLS[0], CELLS[1], CELLS[0])), False)
        other = game.twin()
        self.check(game, other, True)
        other.drawn(1)
        self.check(game, other, False)
        game.drawn(0)
        self.check(game, other, False)
        game.undo()
        game.drawn(1)
        self.check(game, other, True)
        game.put(0)
        other.put(1)
        self.check(game, other, False)
        other.undo()
        other.put(0)
        self.check(game, other, True)
        other.rescore(CELLS[0])
        self.check(game, other, False)

    def test_positions_with_other_rows(self):
        one, other = Game(2, FAIR, WISH), Game(2, FAIR, WISH)
        for game, hands in ((one, (1, 0)), (other, (0, 1))):
            for hand in hands:
                game.drawn(hand)
                game.put(0 if hand else 1)
        self.assertEqual(one.position[1], other.position[1])
        self.check(one, other, False)

    def test_edits_play_no_part(self):
        one, other = Game(2, FAIR, WISH), Game(2, FAIR, WISH)
        one.rescore(CELLS[0])
        one.rescore(WISH)
        self.check(one, other, True)
        other.drawn(1)
        one.drawn(1)
        self.check(one, other, True)
        self.assertNotEqual(one.edits, other.edits)

    def test_nothing_else_is_equal(self):
        game = Game(2, FAIR, WISH)
        for value in any_values() + [(2, FAIR, WISH), state(game), Game, TestEqual, errors.Unfit(), 2.5]:
            self.assertIs(game == value, False)
            self.assertIs(game != value, True)
            self.assertIs(value == game, False)
            self.assertIs(value != game, True)
        self.assertIn(Game(2, FAIR, WISH), [None, game])
        self.assertTrue((game, 1) == (game.twin(), 1))


if __name__ == "__main__":
    unittest.main()
