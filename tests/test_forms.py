import random
import unittest
from fractions import Fraction

import outcomes
import polys
import reference
from checks import Checks
from drawn import pair_of
from drawnturns.bestcells import best_cells, weighs
from drawnturns.errors import Unfit
from drawnturns.forms import best_at, cell_form, form, form_at
from drawnturns.gametree import worth_at
from drawnturns.means import mean_at
from drawnturns.scoring import depends, is_rising
from plays import begun

CELLS = [("cell", cell) for cell in range(10)]
POINTS = [Fraction(1, 2), Fraction(1, 3), Fraction(2, 3), Fraction(1, 10), Fraction(9, 10), Fraction(1, 1000)]


def majority(cells):
    """The score that is 1 if A has more than half of so many cells."""
    return ("if", ("sum", *CELLS[:cells], ("number", -(cells // 2))), ("number", 1), ("number", 0))


def drawn_many(seed, number, cells=(1, 2, 3, 4, 5)):
    """Pairs of a number of cells and a score for it."""
    return [(many, score) for many in cells for score in reference.drawn_scores(seed + many, many, 2, number)]


class TestForm(Checks, unittest.TestCase):
    def test_beside_a_sum_over_all_boards(self):
        for many, score in drawn_many(181, 25):
            self.assert_same(form(many, score), polys.form_of(many, score))

    def test_ten_cells(self):
        for score in reference.drawn_scores(182, 10, 2, 3) + [("y", 4), ("hex", 2, 5), majority(9)]:
            self.assert_same(form(10, score), polys.form_of(10, score))

    def test_by_hand(self):
        self.assert_same(form(1, CELLS[0]), (0, 1))
        self.assert_same(form(1, ("not", CELLS[0])), (1, -1))
        self.assert_same(form(2, ("greatest", CELLS[0], CELLS[1])), (0, 2, -1))
        self.assert_same(form(3, majority(3)), (0, 0, 3, -2))
        self.assert_same(form(10, ("sum", *CELLS)), (0, 10))
        self.assert_same(form(10, ("least", *CELLS)), (0,) * 10 + (1,))
        self.assert_same(form(3, ("y", 2)), (0, 0, 3, -2))

    def test_no_nought_at_the_end(self):
        for many in (1, 3, 10):
            self.assert_same(form(many, ("number", 0)), ())
            self.assert_same(form(many, ("number", 7)), (7,))
            self.assert_same(form(many, ("sum", CELLS[0], ("times", ("number", -1), CELLS[many - 1]))), ())
            self.assert_same(form(many, ("times", ("not", CELLS[0]), CELLS[0])), ())
        self.assert_same(form(2, ("sum", CELLS[0], ("not", CELLS[1]))), (1,))

    def test_cells_beyond_the_scores(self):
        for many, score in drawn_many(183, 6):
            for more in (1, 3):
                self.assert_same(form(many + more, score), form(many, score))

    def test_the_greatest_worths(self):
        most = ("times", ("number", 10 ** 6), ("number", -10 ** 6))
        self.assert_same(form(10, ("if", ("y", 4), most, ("number", 0))), tuple(
            -10 ** 12 * a for a in polys.form_of(10, ("y", 4))))

    def test_scores_of_many_parts(self):
        boards = ("sum",) + tuple(("sum",) + (("hex", 2, 5), ("y", 4)) * 5 for _ in range(10))
        one = polys.plus(polys.form_of(10, ("hex", 2, 5)), polys.form_of(10, ("y", 4)))
        self.assert_same(form(10, boards), polys.times((50,), one))

    def test_by_names(self):
        self.assert_same(form(score=CELLS[1], many=2), (0, 1))


class TestCellForm(Checks, unittest.TestCase):
    def test_beside_a_sum_over_all_ways_of_the_other_cells(self):
        for many, score in drawn_many(191, 15):
            for cell in range(many):
                self.assert_same(cell_form(many, score, cell), polys.cell_form_of(many, score, cell))

    def test_ten_cells(self):
        for score in reference.drawn_scores(192, 10, 2, 2) + [("y", 4), majority(9)]:
            for cell in (0, 4, 9):
                self.assert_same(cell_form(10, score, cell), polys.cell_form_of(10, score, cell))

    def test_by_hand(self):
        self.assert_same(cell_form(1, CELLS[0], 0), (1,))
        self.assert_same(cell_form(1, ("not", CELLS[0]), 0), (-1,))
        self.assert_same([cell_form(3, majority(3), cell) for cell in (0, 1, 2)], [(0, 2, -2)] * 3)
        self.assert_same(cell_form(10, ("least", *CELLS), 3), (0,) * 9 + (1,))

    def test_a_cell_on_which_nothing_hangs(self):
        for many, score in drawn_many(193, 20):
            hanging = depends(many, score)
            for cell in range(many):
                if cell not in hanging:
                    self.assert_same(cell_form(many, score, cell), ())
            self.assert_same(cell_form(many + 2, score, many + 1), ())
        self.assert_same(cell_form(2, ("number", 5), 0), ())

    def test_the_slope_of_form_is_their_sum(self):
        for many, score in drawn_many(194, 20) + drawn_many(195, 2, (7, 10)):
            total = ()
            for cell in range(many):
                total = polys.plus(total, cell_form(many, score, cell))
            whole = form(many, score)
            self.assertEqual(total, tuple(power * whole[power] for power in range(1, len(whole))))

    def test_form_is_a_cells_form_times_p_and_the_form_if_b_has_it(self):
        for many, score in drawn_many(196, 10, (1, 2, 3)):
            for cell in range(many):
                of_b = ()
                for board in polys.all_boards(many):
                    if board[cell] == 0:
                        chances = polys.board_form(board[:cell] + board[cell + 1:])
                        of_b = polys.plus(of_b, polys.times((polys.worth_of(score, board),), chances))
                wanted = polys.plus(polys.times((0, 1), cell_form(many, score, cell)), of_b)
                self.assertEqual(form(many, score), wanted)

    def test_of_rising_scores_none_is_below_0(self):
        for many, score in drawn_many(197, 30) + [(10, ("y", 4)), (9, ("hex", 3, 3))]:
            if is_rising(many, score):
                for cell in range(many):
                    for point in POINTS:
                        self.assertGreaterEqual(polys.value_at(cell_form(many, score, cell), point), 0)

    def test_by_names(self):
        self.assert_same(cell_form(cell=1, score=CELLS[1], many=2), (1,))


class TestFormAt(Checks, unittest.TestCase):
    def test_beside_a_sum_of_powers(self):
        chooser = random.Random(201)
        for _ in range(200):
            great = chooser.choice((1, 5, 10 ** 18))
            coefficients = polys.cut([chooser.randint(-great, great) for _ in range(chooser.randrange(12))])
            point = Fraction(chooser.randint(-20, 20), chooser.randint(1, 12))
            self.assert_same(form_at(coefficients, pair_of(point)), pair_of(polys.value_at(coefficients, point)))

    def test_fractions_below_0_and_above_1(self):
        for fraction, wanted in (
            ((-1, 1), (0, 1)), ((-1, 2), (5, 8)), ((0, 1), (1, 1)), ((1, 1), (4, 1)), ((3, 2), (65, 8)),
            ((7, 1), (400, 1)), ((-10, 1), (-909, 1)), ((-2, 3), (13, 27)),
        ):
            self.assert_same(form_at((1, 1, 1, 1), fraction), wanted)

    def test_lowest_terms(self):
        self.assert_same(form_at((0, 2), (1, 2)), (1, 1))
        self.assert_same(form_at((0, 0, 4), (1, 2)), (1, 1))
        self.assert_same(form_at((1, -2), (1, 2)), (0, 1))
        self.assert_same(form_at((0, 0, 6), (5, 6)), (25, 6))
        self.assert_same(form_at((-3, 0, 0, 9), (2, 3)), (-1, 3))

    def test_forms_of_no_item_and_of_one(self):
        for fraction in ((0, 1), (1, 2), (-7, 3), (10 ** 200, 3)):
            self.assert_same(form_at((), fraction), (0, 1))
            self.assert_same(form_at((-5,), fraction), (-5, 1))

    def test_great_fractions(self):
        point = Fraction(3 ** 400, 7 ** 300)
        coefficients = (10 ** 18,) * 11
        self.assert_same(form_at(coefficients, pair_of(point)), pair_of(polys.value_at(coefficients, point)))

    def test_by_names(self):
        self.assert_same(form_at(fraction=(1, 3), coefficients=(1, 1)), (4, 3))


class TestCoins(Checks, unittest.TestCase):
    def test_the_mean_the_worth_and_the_weights_at_each_coin(self):
        for many, score in drawn_many(211, 6):
            for a, b in ((1, 1), (1, 2), (2, 1), (6, 4), (999, 1)):
                coin, fraction = ("coin", a, b), pair_of(Fraction(a, a + b))
                told = form_at(form(many, score), fraction)
                self.assert_same(mean_at(coin, score, begun(many)), told)
                self.assert_same(worth_at(coin, score, begun(many)), told)
                for cell in range(many):
                    wanted = form_at(cell_form(many, score, cell), fraction)
                    self.assert_same(weighs(coin, score, begun(many), cell), wanted)
                for hand in (0, 1):
                    wanted = best_cells(coin, score, begun(many), hand)
                    self.assert_same(best_at(many, score, fraction), wanted)

    def test_y_at_one_half_and_with_the_hands_exchanged(self):
        for side in (1, 2, 3, 4):
            for many in {side * (side + 1) // 2, 10}:
                told = form(many, ("y", side))
                self.assert_same(form_at(told, (1, 2)), (1, 2))
                self.assertEqual(polys.moved(told, 1, -1), polys.minus((1,), told))
                for point in POINTS:
                    turned = 1 - polys.value_at(told, point)
                    self.assert_same(form_at(told, pair_of(1 - point)), pair_of(turned))

    def test_hex_at_one_half_and_with_the_hands_exchanged(self):
        for rows in (1, 2, 3):
            told = form(10, ("hex", rows, rows))
            self.assert_same(form_at(told, (1, 2)), (1, 2))
            self.assertEqual(polys.moved(told, 1, -1), polys.minus((1,), told))
        for rows in range(1, 11):
            for columns in range(1, 10 // rows + 1):
                one, other = form(10, ("hex", rows, columns)), form(10, ("hex", columns, rows))
                self.assertEqual(polys.moved(one, 1, -1), polys.minus((1,), other))


class TestBestAt(Checks, unittest.TestCase):
    def wanted(self, many, score, point):
        weights = [polys.value_at(polys.cell_form_of(many, score, cell), point) for cell in range(many)]
        return tuple(cell for cell in range(many) if weights[cell] == max(weights))

    def test_beside_the_weights_of_all_cells(self):
        for many, score in drawn_many(221, 10):
            for point in POINTS:
                self.assert_same(best_at(many, score, pair_of(point)), self.wanted(many, score, point))

    def test_ten_cells(self):
        for score in reference.drawn_scores(222, 10, 2, 2) + [("y", 4)]:
            self.assert_same(best_at(10, score, (2, 5)), self.wanted(10, score, Fraction(2, 5)))

    def test_at_a_point_where_cells_weigh_the_same_and_near_to_it(self):
        pair = ("sum", ("times", ("number", 3), ("times", CELLS[0], CELLS[1])), CELLS[2])
        for near in (10, 10 ** 9, 10 ** 300):
            self.assert_same(best_at(3, pair, pair_of(Fraction(1, 3) - Fraction(1, near))), (2,))
            self.assert_same(best_at(3, pair, (1, 3)), (0, 1, 2))
            self.assert_same(best_at(3, pair, pair_of(Fraction(1, 3) + Fraction(1, near))), (0, 1))

    def test_near_to_a_point_that_is_no_fraction(self):
        three = ("sum", ("times", ("number", 2), ("least", *CELLS[:3])), CELLS[3])
        # The square root of one half, from below and from above.
        below = 10 ** 300
        root = int("7071067811865475244008443621048490392848359376884740")
        for number, scale in ((root, 10 ** 52), (7071, 10 ** 4), (707106781, 10 ** 9)):
            self.assert_same(best_at(4, three, pair_of(Fraction(number, scale))), (3,))
            self.assert_same(best_at(4, three, pair_of(Fraction(number + 1, scale))), (0, 1, 2))
        low, high = 0, below
        while high - low > 1:
            middle = (low + high) // 2
            low, high = (middle, high) if 2 * middle * middle < below * below else (low, middle)
        self.assert_same(best_at(4, three, pair_of(Fraction(low, below))), (3,))
        self.assert_same(best_at(4, three, pair_of(Fraction(high, below))), (0, 1, 2))

    def test_touching_weights(self):
        touching = ("sum", ("times", ("number", 2), ("y", 2)), CELLS[3])
        self.assert_same(best_at(4, touching, (1, 2)), (0, 1, 2, 3))
        for more in (1, -1):
            near = Fraction(1, 2) + Fraction(more, 10 ** 200)
            self.assert_same(best_at(4, touching, pair_of(near)), (3,))

    def test_near_to_the_ends(self):
        either = ("greatest", CELLS[0], ("least", CELLS[1], CELLS[2]))
        self.assert_same(best_at(3, either, (1, 10 ** 399)), (0,))
        self.assert_same(best_at(3, either, (10 ** 399 - 1, 10 ** 399)), (0,))
        self.assert_same(best_at(3, ("least", *CELLS[:3]), (1, 10 ** 399)), (0, 1, 2))

    def test_one_cell_and_numbers_alone(self):
        self.assert_same(best_at(1, ("not", CELLS[0]), (1, 3)), (0,))
        self.assert_same(best_at(4, ("number", -3), (1, 3)), (0, 1, 2, 3))

    def test_a_cell_that_a_does_not_want_is_best_if_all_others_are_worse(self):
        worse = ("sum", ("times", ("number", -1), CELLS[0]), ("times", ("number", -2), CELLS[1]))
        self.assert_same(best_at(2, worse, (1, 2)), (0,))

    def test_what_is_no_fraction_above_0_and_below_1(self):
        for value in (
            (0, 1), (1, 1), (2, 1), (-1, 2), (3, 2), (2, 4), (3, 9), (10, 20), (0, 2), (0, 0), (1, 0), (-1, -2),
            (1, -2), (0, 5), (5, 5), (1, 2, 3), (1,), (), (True, 2), (1, True), (False, 1), [1, 2], "1/2", (None, 2),
            (1, None),
            ("1", "2"), ("1", 2), None, True, 1, 0, {1: 2}, {1: 0, 2: 0}, ((1, 2), (1, 2)), ((1,), (2,)), ([1], [2]),
            (10 ** 399, 10 ** 398), (2 * 10 ** 398, 4 * 10 ** 398), (1, 2, None), ((1, 2),), [(1, 2)],
        ):
            with self.subTest(value=repr(value)[:50]):
                self.assert_raises(Unfit(), best_at, 3, CELLS[0], value)

    def test_any_values(self):
        self.with_any_values(lambda value: self.assert_raises(Unfit(), best_at, 2, CELLS[1], value))

    def test_by_names(self):
        self.assert_same(best_at(fraction=(1, 2), score=CELLS[1], many=2), (1,))
        self.assert_raises(Unfit(), best_at, fraction=None, score=CELLS[1], many=2)

    def test_it_is_best_cells_of_the_document(self):
        for many, score in drawn_many(223, 4, (2, 3)):
            for hand in (0, 1):
                wanted = outcomes.best_cells(("coin", 3, 4), score, begun(many), hand)
                self.assert_same(best_at(many, score, (3, 7)), wanted)


if __name__ == "__main__":
    unittest.main()
