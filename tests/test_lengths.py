import random
import unittest
from fractions import Fraction
from itertools import product
from math import comb

import drawn
import outcomes
import polys
import reference
from checks import Checks
from drawnturns.bestcells import best_cells
from drawnturns.deciding import is_decided
from drawnturns.errors import TooMany, Unfit
from drawnturns.lengths import fewest_turns, least_mean_turns, mean_turns, most_turns, square
from drawnturns.scoring import depends, is_rising
from drawn import CHAIN, COIN, URN, pair_of
from plays import all_boards, all_standings, begun, behind

CELLS = [("cell", cell) for cell in range(10)]
FAIR = ("coin", 1, 1)
UNEVEN = (CHAIN, ("row", (1, 0, 0)), ("table", (((0, 1, 0), 1), ((1, 0, 0), 1))),
          ("mix", ((1, FAIR), (2, ("chain", (1, 1), (1, 2), (2, 1))))))


def majority(cells):
    """The score that is 1 if A has more than half of so many cells."""
    return ("if", ("sum", *CELLS[:cells], ("number", -(cells // 2))), ("number", 1), ("number", 0))


def constant_scores():
    """Scores by which all boards of two cells and more have one worth."""
    return [("number", 7), ("number", 0), ("sum", CELLS[0], ("not", CELLS[0])), ("times", CELLS[0], ("not", CELLS[0])),
            ("greatest", ("number", 1), CELLS[1]), ("if", ("number", 1), ("number", 3), CELLS[1])]


def mean_of(lengths):
    return sum(turns * told for turns, told in lengths.items())


class TestPlaysByBestCells(Checks, unittest.TestCase):
    def check(self, many, draws, score, best=outcomes.best_by_means):
        lengths = outcomes.lengths_of(many, draws, score, best)
        self.assert_same(mean_turns(many, draws, score), pair_of(Fraction(mean_of(lengths))))
        self.assert_same(fewest_turns(many, draws, score), min(lengths))
        self.assert_same(most_turns(many, draws, score), max(lengths))

    def test_few_cells_beside_a_play_by_the_tree(self):
        chooser = random.Random(341)
        for many in (1, 2, 3):
            scores = reference.drawn_scores(342, many, 2, 40)
            for draws in drawn.exchangeable_draws(chooser, many) + [("coin", 1, 0), ("coin", 0, 1), FAIR]:
                for score in chooser.sample(scores, 3):
                    self.check(many, draws, score, outcomes.best_cells)

    def test_four_cells_and_five_beside_a_play_by_means(self):
        chooser = random.Random(343)
        for many in (4, 5):
            scores = reference.drawn_scores(344, many, 2, 30)
            for draws in drawn.exchangeable_draws(chooser, many) + [("coin", 1, 0), ("coin", 0, 1), FAIR]:
                self.check(many, draws, chooser.choice(scores))

    def test_any_draws_that_are_exchangeable(self):
        chooser = random.Random(345)
        seen = set()
        for many in (1, 2, 3):
            for draws in drawn.draws_of_all_kinds(chooser, many, 4):
                score = reference.drawn_scores(chooser.random(), many, 2, 1)[0]
                even = drawn.least_parting_rows(many, draws) is None
                seen.add((draws[0], even))
                if even:
                    self.check(many, draws, score)
                else:
                    for told in (mean_turns, fewest_turns, most_turns):
                        self.assert_raises(Unfit(), told, many, draws, score)
        self.assertLessEqual({("chain", True), ("chain", False), ("row", True), ("row", False), ("coin", True)}, seen)

    def test_ten_cells_beside_a_play_with_best_cells(self):
        scores = [("times", CELLS[9], CELLS[3]), ("if", CELLS[4], ("times", CELLS[2], CELLS[7]), CELLS[8]), CELLS[9],
                  ("y", 2), ("greatest", ("hex", 1, 2), CELLS[5])]
        for draws in (FAIR, URN, ("bag", 7, 5), ("coin", 1, 0)):
            for score in scores[2:] if draws is FAIR else scores[:1]:
                waiting, lengths = [(begun(10), Fraction(1))], {}
                while waiting:
                    position, told = waiting.pop()
                    row, standing = position
                    if is_decided(score, standing):
                        lengths[len(row)] = lengths.get(len(row), 0) + told
                        continue
                    for hand, share in outcomes.next_hands(draws, row):
                        cell = best_cells(draws, score, position, hand)[0]
                        waiting.append((behind(position, hand, cell), told * share))
                self.assert_same(mean_turns(10, draws, score), pair_of(Fraction(mean_of(lengths))))
                self.assert_same(fewest_turns(10, draws, score), min(lengths))
                self.assert_same(most_turns(10, draws, score), max(lengths))

    def test_ten_cells_that_all_count(self):
        for draws in (FAIR, COIN, URN, ("bag", 10, 10), ("coin", 1, 0), ("mix", ((1, FAIR), (3, ("coin", 1, 0))))):
            self.assert_same(mean_turns(10, draws, ("sum", *CELLS)), (10, 1))
            self.assert_same(fewest_turns(10, draws, ("sum", *CELLS)), 10)
            self.assert_same(most_turns(10, draws, ("sum", *CELLS)), 10)
        # It goes on while A is drawn.
        for draws, chance in ((FAIR, Fraction(1, 2)), (COIN, Fraction(2, 5)), (("coin", 1, 0), Fraction(1))):
            wanted = sum(chance ** turns for turns in range(10))
            self.assert_same(mean_turns(10, draws, ("least", *CELLS)), pair_of(wanted))
            self.assert_same(fewest_turns(10, draws, ("least", *CELLS)), 1 if chance < 1 else 10)
            self.assert_same(most_turns(10, draws, ("least", *CELLS)), 10)
        # In this urn as many turns of A are as likely.
        wanted = sum(Fraction(1, turns + 1) for turns in range(10))
        self.assert_same(mean_turns(10, ("urn", 1, 1, 1), ("least", *CELLS)), pair_of(wanted))

    def test_who_has_most_of_nine(self):
        # The game is over when one hand has five cells, whichever cells are best.
        wanted = sum(turns * 2 * comb(turns - 1, 4) * Fraction(1, 2 ** turns) for turns in range(5, 10))
        for many in (9, 10):
            self.assert_same(mean_turns(many, FAIR, majority(9)), pair_of(wanted))
            self.assert_same(fewest_turns(many, FAIR, majority(9)), 5)
            self.assert_same(most_turns(many, FAIR, majority(9)), 9)
        self.assert_same(mean_turns(10, ("bag", 0, 10), majority(9)), (5, 1))
        # Out of a bag with three chits of A and seven of B nobody but B has five cells of nine.
        self.assert_same(fewest_turns(10, ("bag", 3, 7), majority(9)), 5)
        self.assert_same(most_turns(10, ("bag", 3, 7), majority(9)), 8)
        self.assert_same(most_turns(10, ("bag", 4, 6), majority(9)), 9)

    def test_long_games_of_ten_cells(self):
        boards = ("sum",) + tuple(("sum",) + (("hex", 2, 5), ("y", 4)) * 5 for _ in range(10))
        chits = ("mix", tuple((place + 1, ("bag", 5 + place, 9)) for place in range(6)))
        for draws in (FAIR, chits):
            for score in (("y", 4), boards):
                mean = Fraction(*mean_turns(10, draws, score))
                self.assertLess(fewest_turns(10, draws, score), mean)
                self.assertLess(mean, most_turns(10, draws, score))
        self.assert_same(fewest_turns(10, FAIR, ("y", 4)), 4)
        self.assertGreaterEqual(Fraction(*mean_turns(10, FAIR, ("y", 4))), Fraction(*square(10, ("y", 4))))

    def test_the_least_of_the_best_cells(self):
        # At the beginning all cells weigh 1 / 4; if 2 were taken first 7 / 4 turns were enough in the mean.
        odd = ("if", ("times", CELLS[0], CELLS[1]), ("if", CELLS[2], ("number", 1), ("number", 2)), CELLS[2])
        self.assert_same(best_cells(FAIR, odd, begun(3), 1), (0, 1, 2))
        self.assert_same(mean_turns(3, FAIR, odd), (5, 2))
        self.assert_same(least_mean_turns(3, FAIR, odd), (7, 4))
        either = ("greatest", ("times", CELLS[0], CELLS[1]), ("times", CELLS[2], CELLS[3]))
        self.assert_same(mean_turns(4, FAIR, either), (21, 8))
        for score in (either, ("sum", ("times", ("y", 2), CELLS[3]), ("y", 2)),
                      ("if", ("hex", 3, 1), ("times", CELLS[0], CELLS[3]), ("y", 2))):
            self.check(4, FAIR, score)

    def test_coins_that_always_fall_for_one_hand(self):
        for many in (2, 3, 10):
            for hand in (0, 1):
                draws = ("coin", hand, 1 - hand)
                last = CELLS[many - 1]
                for told in (fewest_turns, most_turns):
                    self.assert_same(told(many, draws, last), many)
                    self.assert_same(told(many, draws, ("times", CELLS[0], last)), many if hand else 1)
                self.assert_same(mean_turns(many, draws, last), (many, 1))

    def test_hands_that_cannot_be_next(self):
        # Behind A's one chit all empty cells are best, so the least one is taken.
        for many in (3, 4):
            draws = ("bag", 1, many - 1)
            self.check(many, draws, CELLS[many - 1])
            self.check(many, draws, ("greatest", CELLS[1], CELLS[many - 1]))
            self.check(many, draws, ("times", CELLS[1], CELLS[many - 1]))
        # Which standings are decided does not hang on the draws: a second cell of A could still count.
        self.assert_same(mean_turns(2, ("bag", 1, 1), ("times", CELLS[0], CELLS[1])), (3, 2))
        self.assert_same(mean_turns(3, ("bag", 0, 3), ("greatest", CELLS[0], CELLS[1])), (2, 1))

    def test_0_where_all_boards_have_one_worth(self):
        for many in (2, 5, 10):
            for score in constant_scores():
                for draws in (FAIR, ("bag", many, 0), URN):
                    self.assert_same(mean_turns(many, draws, score), (0, 1))
                    self.assert_same(fewest_turns(many, draws, score), 0)
                    self.assert_same(most_turns(many, draws, score), 0)
        for score in (CELLS[0], ("not", CELLS[1]), ("times", CELLS[0], CELLS[1])):
            for draws in (FAIR, ("coin", 0, 1)):
                self.assertGreater(fewest_turns(2, draws, score), 0)

    def test_draws_that_are_not_exchangeable(self):
        for draws in UNEVEN:
            for score in (CELLS[0], ("number", 1), majority(3)):
                for told in (mean_turns, fewest_turns, most_turns):
                    self.assert_raises(Unfit(), told, 3, draws, score)
        for told in (mean_turns, fewest_turns, most_turns):
            self.assert_raises(Unfit(), told, 10, CHAIN, CELLS[0])

    def test_fewest_mean_most(self):
        chooser = random.Random(346)
        for many in (3, 5, 7):
            for score in reference.drawn_scores(347, many, 2, 10):
                for draws in drawn.exchangeable_draws(chooser, many):
                    fewest, most = fewest_turns(many, draws, score), most_turns(many, draws, score)
                    mean = Fraction(*mean_turns(many, draws, score))
                    self.assertTrue(0 <= fewest <= mean <= most <= many)

    def test_by_names(self):
        self.assert_same(mean_turns(score=majority(3), draws=FAIR, many=3), (5, 2))
        self.assert_same(fewest_turns(score=majority(3), draws=FAIR, many=3), 2)
        self.assert_same(most_turns(score=majority(3), draws=FAIR, many=3), 3)


class TestLeastMeanTurns(Checks, unittest.TestCase):
    def check(self, many, draws, score):
        wanted = min(outcomes.means_by_rules(draws, score, begun(many)))
        self.assert_same(least_mean_turns(many, draws, score), pair_of(wanted))
        self.assertLessEqual(wanted, Fraction(*mean_turns(many, draws, score)))

    def test_beside_a_search_through_all_rules(self):
        chooser = random.Random(351)
        for many, number in ((1, 5), (2, 8), (3, 6), (4, 1)):
            scores = reference.drawn_scores(352, many, 2, 40)
            for draws in drawn.exchangeable_draws(chooser, many) + [("coin", 1, 0), ("coin", 0, 1), FAIR]:
                for score in chooser.sample(scores, number):
                    self.check(many, draws, score)

    def test_rules_written_out(self):
        # All rules for two cells and three: for each standing one of its empty cells.
        for many, score, draws in ((2, ("times", CELLS[0], CELLS[1]), COIN), (3, ("if", *CELLS[:3]), COIN),
                                   (3, ("if", *CELLS[:3]), ("bag", 2, 1))):
            standings = [one for one in all_standings(many) if None in one and not outcomes.is_decided(score, one)]
            choices = [[cell for cell in range(many) if one[cell] is None] for one in standings]
            means = []
            for told in product(*choices):
                rule, mean = dict(zip(standings, told)), Fraction(0)
                for row, chance in drawn.whole_chances(many, draws).items():
                    position = begun(many)
                    for hand in row:
                        if position[1] in rule:
                            position, mean = behind(position, hand, rule[position[1]]), mean + chance
                means.append(mean)
            self.assert_same(least_mean_turns(many, draws, score), pair_of(min(means)))

    def test_five_cells(self):
        self.assert_same(least_mean_turns(5, FAIR, ("sum", *CELLS[:5])), (5, 1))
        self.assert_same(least_mean_turns(5, FAIR, ("least", *CELLS[:5])), (31, 16))
        self.assert_same(least_mean_turns(5, ("urn", 1, 1, 1), ("least", *CELLS[:5])), (137, 60))
        self.assert_same(least_mean_turns(5, FAIR, majority(5)), (33, 8))
        fork = ("if", CELLS[0], ("if", CELLS[1], CELLS[2], ("number", 2)), ("times", CELLS[3], CELLS[4]))
        self.assert_same(least_mean_turns(5, FAIR, fork), (5, 2))

    def test_it_hangs_on_which_boards_have_the_same_worth_alone(self):
        for score, other in (
            (CELLS[1], ("times", ("number", -5), CELLS[1])), (majority(3), ("not", majority(3))),
            (("sum", CELLS[0], CELLS[1]), ("times", ("sum", *CELLS[:2], ("number", 5)), ("sum", *CELLS[:2]))),
        ):
            for draws in (FAIR, COIN, ("bag", 2, 1), URN):
                self.assert_same(least_mean_turns(3, draws, score), least_mean_turns(3, draws, other))

    def test_one_cell_alone(self):
        for many in (1, 2, 3, 4, 5):
            for cell in range(many):
                for draws in (FAIR, ("coin", 1, 0), ("bag", 1, many), URN):
                    self.assert_same(least_mean_turns(many, draws, CELLS[cell]), (1, 1))
        found = 0
        for score in reference.drawn_scores(353, 4, 2, 60):
            if len(depends(4, score)) == 1:
                found += 1
                self.assert_same(least_mean_turns(4, COIN, score), (1, 1))
        self.assertGreater(found, 5)

    def test_0_where_all_boards_have_one_worth(self):
        for many in (2, 3, 5):
            for score in constant_scores():
                for draws in (FAIR, ("coin", 1, 0), URN):
                    self.assert_same(least_mean_turns(many, draws, score), (0, 1))
        self.assert_same(least_mean_turns(1, FAIR, ("number", 7)), (0, 1))

    def test_too_many(self):
        for many in range(6, 11):
            for score in (CELLS[0], ("number", 1)):
                for draws in (FAIR, ("bag", 5, 5), ("row", (1,) * many)):
                    self.assert_raises(TooMany(5), least_mean_turns, many, draws, score)

    def test_unfit_ahead_of_too_many(self):
        for many in range(2, 11):
            self.assert_raises(Unfit(), least_mean_turns, many, ("row", (1,) + (0,) * (many - 1)), CELLS[0])
        for many in range(3, 11):
            self.assert_raises(Unfit(), least_mean_turns, many, CHAIN, ("number", 1))

    def test_by_names(self):
        self.assert_same(least_mean_turns(score=majority(3), many=3, draws=FAIR), (5, 2))


class TestSquare(Checks, unittest.TestCase):
    def wanted(self, many, score):
        weights = [polys.value_at(polys.cell_form_of(many, score, cell), Fraction(1, 2)) for cell in range(many)]
        return pair_of(sum(weights) ** 2)

    def test_beside_forms_of_its_own(self):
        for many in (1, 2, 3, 4, 5):
            for score in reference.drawn_scores(361, many, 2, 20):
                self.assert_same(square(many, score), self.wanted(many, score))

    def test_ten_cells(self):
        for score in [("y", 4), majority(9)] + reference.drawn_scores(362, 10, 2, 1):
            self.assert_same(square(10, score), self.wanted(10, score))

    def test_lowest_terms_and_signs(self):
        self.assert_same(square(2, ("least", CELLS[0], CELLS[1])), (1, 1))
        self.assert_same(square(3, ("least", *CELLS[:3])), (9, 16))
        self.assert_same(square(10, ("least", *CELLS)), (25, 65536))
        self.assert_same(square(3, ("not", CELLS[0])), (1, 1))
        self.assert_same(square(3, ("times", ("number", -4), ("least", *CELLS[:3]))), (9, 1))
        self.assert_same(square(10, ("sum", *CELLS)), (100, 1))
        for score in constant_scores():
            self.assert_same(square(10, score), (0, 1))
        most = ("times", ("number", 10 ** 6), ("number", -10 ** 6))
        self.assert_same(square(10, ("if", CELLS[3], most, ("number", 0))), (10 ** 24, 1))

    def test_the_mean_of_turns_is_at_least_the_square(self):
        cases = [(many, score) for many in (1, 2, 3, 4, 5) for score in reference.drawn_scores(363, many, 3, 60)]
        cases += [(3, ("y", 2)), (4, ("hex", 2, 2)), (5, majority(5)), (5, majority(3)), (4, ("hex", 1, 4))]
        checked = 0
        for many, score in cases:
            worths = {reference.worth_of(score, board) for board in all_boards(many)}
            if worths <= {0, 1} and is_rising(many, score):
                checked += len(worths) > 1
                told = Fraction(*square(many, score))
                self.assertGreaterEqual(Fraction(*mean_turns(many, FAIR, score)), told)
                self.assertGreaterEqual(Fraction(*least_mean_turns(many, FAIR, score)), told)
        self.assertGreater(checked, 20)

    def test_by_names(self):
        self.assert_same(square(score=CELLS[1], many=2), (1, 1))


if __name__ == "__main__":
    unittest.main()
