import random
import unittest

import drawn
import outcomes
import reference
from checks import Checks
from drawnturns.drawing import is_exchangeable
from drawnturns.errors import TooMany
from drawnturns.partingscores import parting_error, parting_score
from drawn import CHAIN, COIN
from plays import begun

CELLS = [("cell", cell) for cell in range(10)]


def parts(many, draws, score):
    """Whether worth and mean at the beginning are unlike, by the document."""
    return outcomes.worth_at(draws, score, begun(many)) != outcomes.mean_at(draws, score, begun(many))


def bent_table(many, places):
    """A table by which any turns are as by a fair coin, unless all of the places are among them."""
    pairs = []
    for row in drawn.all_rows(many):
        odd = sum(row[place] == 0 for place in places) % 2
        pairs.append((row, 2 if odd else 3))
    return ("table", tuple(pairs))


class TestPartingScore(Checks, unittest.TestCase):
    def check(self, many, draws):
        """parting_score is as told; whether it is a score comes back."""
        score = parting_score(many, draws)
        if drawn.least_parting_rows(many, draws) is None:
            self.assertIsNone(score)
        else:
            self.assertIsNone(reference.score_error(many, score))
            self.assertTrue(parts(many, draws, score))
            self.assertIsNone(parting_error(many, draws, score))
        return score is not None

    def test_draws_of_all_kinds(self):
        chooser = random.Random(151)
        for many, number in ((1, 2), (2, 6), (3, 6), (4, 3), (5, 1)):
            for draws in drawn.draws_of_all_kinds(chooser, many, number):
                with self.subTest(many=many, draws=draws[0]):
                    self.check(many, draws)

    def test_exchangeable_draws(self):
        chooser = random.Random(152)
        for many in range(1, 11):
            for draws in drawn.exchangeable_draws(chooser, many):
                self.assertIsNone(parting_score(many, draws))

    def test_each_row(self):
        for many in (2, 3, 4):
            for row in drawn.all_rows(many):
                self.assertIs(self.check(many, ("row", row)), sum(row) not in (0, many))

    def test_even_tables_with_one_weight_or_two_changed(self):
        for many in (2, 3, 4):
            rows = drawn.all_rows(many)
            for odd in rows:
                self.check(many, ("table", tuple((row, 3 if row == odd else 2) for row in rows)))
        chooser = random.Random(153)
        for many in (3, 4, 5):
            rows = drawn.all_rows(many)
            for _ in range(6):
                one, other = chooser.sample(rows, 2)
                pairs = tuple((row, 5 + (row == one) - (row == other)) for row in rows)
                self.check(many, ("table", pairs))

    def test_tables_that_part_by_the_turns_at_some_places_together_alone(self):
        for many in (2, 3, 4, 5):
            for number in range(1, many + 1):
                table = bent_table(many, range(number))
                self.assertIs(self.check(many, table), number < many)
                self.assertIs(self.check(many, bent_table(many, range(many - number, many))), number < many)

    def test_chains(self):
        for many in (2, 3, 4, 5):
            for pairs in (((1, 1), (2, 1), (1, 2)), ((1, 1), (1, 0), (0, 1)), ((1, 0), (0, 1), (1, 0)),
                          ((1, 3), (1, 1), (1, 1)), ((1, 10 ** 6), (10 ** 6, 1), (1, 10 ** 6))):
                self.check(many, ("chain",) + pairs)

    def test_more_than_five_cells(self):
        for many in range(6, 11):
            for draws in (CHAIN, ("row", (1,) + (0,) * (many - 1)), ("mix", ((1, COIN), (1, CHAIN)))):
                self.assert_raises(TooMany(5), parting_score, many, draws)
            for draws in (COIN, ("row", (1,) * many), ("chain", (1, 1), (1, 1), (1, 1)), ("bag", many, 1)):
                self.assertIsNone(parting_score(many, draws))

    def test_great_weights(self):
        rows = drawn.all_rows(5)
        for odd in ((0, 0, 0, 0, 1), (1, 1, 1, 1, 0), (0, 1, 0, 1, 0)):
            pairs = tuple((row, 10 ** 6 - (row == odd)) for row in rows)
            self.assertIs(self.check(5, ("table", pairs)), True)
            mixed = ("mix", ((10 ** 6, COIN), (1, ("table", pairs))))
            self.assertIs(self.check(5, mixed), True)

    def test_again_and_by_names(self):
        first = parting_score(3, ("row", (0, 1, 1)))
        self.assert_same(parting_score(draws=("row", (0, 1, 1)), many=3), first)
        self.assert_raises(TooMany(5), parting_score, draws=CHAIN, many=7)


class TestPartingError(Checks, unittest.TestCase):
    def wanted(self, many, draws, value):
        error = reference.score_error(many, value)
        if error is not None:
            return ("score", error)
        return None if parts(many, draws, value) else "alike"

    def test_scores_beside_a_tree_and_a_sum(self):
        chooser = random.Random(161)
        told = set()
        for many, number in ((1, 3), (2, 6), (3, 6), (4, 2), (5, 1)):
            scores = reference.drawn_scores(162, many, 2, 40)
            for draws in drawn.draws_of_all_kinds(chooser, many, number):
                for score in chooser.sample(scores, 3) + [("sum", CELLS[0], CELLS[0], ("cell", many - 1))]:
                    wanted = self.wanted(many, draws, score)
                    told.add(wanted)
                    self.assert_same(parting_error(many, draws, score), wanted)
        self.assertEqual(told, {None, "alike"})

    def test_exchangeable_draws_are_never_parted(self):
        chooser = random.Random(163)
        for many in (1, 2, 3, 4, 5):
            scores = reference.drawn_scores(164, many, 3, 20)
            for draws in drawn.exchangeable_draws(chooser, many):
                self.assertTrue(is_exchangeable(many, draws))
                for score in chooser.sample(scores, 2):
                    self.assert_same(parting_error(many, draws, score), "alike")

    def test_too_many_ahead_of_all_else(self):
        for many in range(6, 11):
            for draws in (COIN, CHAIN):
                for value in (None, (), CELLS[0], ("cell", 10), ("sum",), "c0", ("number", 1)):
                    self.assert_raises(TooMany(5), parting_error, many, draws, value)

    def test_what_is_no_score(self):
        for draws in (COIN, ("row", (1, 0, 0))):
            for value, error in (
                (None, ("form", ())), (("cell", 3), ("cell", ())), (("sum",), ("many", ())),
                (("max", CELLS[0]), ("word", ())),
                (("sum", CELLS[0], ("not", ("cell", True))), ("cell", (1, 0))), (["cell", 0], ("form", ())),
                (("times", ("number", 10 ** 6), ("sum", ("number", 10 ** 6), CELLS[0])), ("great", ())),
                (("y", 3), ("board", ())),
            ):
                self.assert_same(parting_error(3, draws, value), ("score", error))

    def test_any_values(self):
        for many in (1, 5):
            for draws in (COIN, CHAIN):
                self.with_any_values(lambda value: self.assert_same(
                    parting_error(many, draws, value), self.wanted(many, draws, value)))

    def test_any_values_for_six_cells(self):
        self.with_any_values(lambda value: self.assert_raises(TooMany(5), parting_error, 6, COIN, value))

    def test_by_names(self):
        self.assertIsNone(parting_error(value=CELLS[0], draws=("row", (1, 0)), many=2))
        self.assert_same(parting_error(value=CELLS[0], many=2, draws=COIN), "alike")


if __name__ == "__main__":
    unittest.main()
