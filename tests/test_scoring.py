import unittest

import reference
from checks import Checks
from drawnturns.scoring import depends, is_rising, worth_of
from plays import all_boards

CELLS = [("cell", cell) for cell in range(10)]


def wanted_rising(many, score):
    """Whether no board is worth less with a cell more for A."""
    worths = {board: reference.worth_of(score, board) for board in all_boards(many)}
    return all(
        worths[one] <= worths[other] for one in worths for other in worths
        if all(a <= b for a, b in zip(one, other)) and sum(other) == sum(one) + 1
    )


def wanted_depends(many, score):
    """The cells at which alone two boards of unlike worths differ."""
    found = set()
    for board in all_boards(many):
        for cell in range(many):
            other = tuple(1 - hand if at == cell else hand for at, hand in enumerate(board))
            if reference.worth_of(score, board) != reference.worth_of(score, other):
                found.add(cell)
    return tuple(sorted(found))


class TestWorthOf(Checks, unittest.TestCase):
    def worths(self, score, many):
        found = [worth_of(score, board) for board in all_boards(many)]
        self.assertEqual({type(worth) for worth in found}, {int})
        return found

    def test_numbers_and_cells(self):
        self.assertEqual(self.worths(("number", -7), 2), [-7, -7, -7, -7])
        self.assertEqual(self.worths(("number", 10 ** 6), 1), [10 ** 6, 10 ** 6])
        self.assertEqual(self.worths(CELLS[0], 2), [0, 0, 1, 1])
        self.assertEqual(self.worths(CELLS[1], 2), [0, 1, 0, 1])
        self.assertEqual(worth_of(CELLS[9], (0,) * 9 + (1,)), 1)

    def test_sums_least_and_greatest_ones(self):
        self.assertEqual(self.worths(("sum", CELLS[0], CELLS[1], ("number", -3)), 2), [-3, -2, -2, -1])
        self.assertEqual(self.worths(("sum",) + (CELLS[0],) * 10, 1), [0, 10])
        self.assertEqual(self.worths(("least", CELLS[0], CELLS[1]), 2), [0, 0, 0, 1])
        self.assertEqual(self.worths(("least", ("number", -2), ("number", -5), CELLS[0]), 1), [-5, -5])
        self.assertEqual(self.worths(("greatest", CELLS[0], CELLS[1]), 2), [0, 1, 1, 1])
        self.assertEqual(self.worths(("greatest", ("number", -2), ("number", -5)), 1), [-2, -2])
        for word in ("sum", "least", "greatest"):
            self.assertEqual(self.worths((word, CELLS[1]), 2), [0, 1, 0, 1])

    def test_times(self):
        self.assertEqual(self.worths(("times", CELLS[0], CELLS[1]), 2), [0, 0, 0, 1])
        self.assertEqual(self.worths(("times", ("number", -3), ("sum", CELLS[0], ("number", 2))), 1), [-6, -9])
        self.assertEqual(self.worths(("times", ("number", -10 ** 6), ("number", 10 ** 6)), 1), [-10 ** 12] * 2)
        self.assertEqual(self.worths(("times", ("number", -2), ("number", -2)), 1), [4, 4])

    def test_not(self):
        self.assertEqual(self.worths(("not", CELLS[0]), 1), [1, 0])
        self.assertEqual(self.worths(("not", ("number", -4)), 1), [0, 0])
        self.assertEqual(self.worths(("not", ("number", 2)), 1), [0, 0])
        self.assertEqual(self.worths(("not", ("number", 0)), 1), [1, 1])
        self.assertEqual(self.worths(("not", ("not", ("number", 7))), 1), [1, 1])

    def test_if(self):
        self.assertEqual(self.worths(("if", CELLS[0], ("number", 5), CELLS[1]), 2), [0, 1, 5, 5])
        for number, wanted in ((1, 8), (2, 8), (0, 9), (-1, 9), (-5, 9)):
            score = ("if", ("number", number), ("number", 8), ("number", 9))
            self.assertEqual(self.worths(score, 1), [wanted, wanted])

    def test_y_and_hex_on_the_cells_from_0_on(self):
        self.assertEqual(self.worths(("y", 1), 2), [0, 0, 1, 1])
        self.assertEqual(self.worths(("y", 2), 3), [0, 0, 0, 1, 0, 1, 1, 1])
        self.assertEqual(self.worths(("hex", 1, 2), 2), [0, 1, 1, 1])
        self.assertEqual(self.worths(("hex", 2, 1), 2), [0, 0, 0, 1])
        joined = [int((a and c) or (b and d) or (b and c)) for a, b, c, d in all_boards(4)]
        self.assertEqual(self.worths(("hex", 2, 2), 4), joined)
        for more in all_boards(2):
            self.assertEqual(worth_of(("y", 2), (1, 0, 1) + more), 1)
            self.assertEqual(worth_of(("hex", 1, 2), (0, 0) + more), 0)

    def test_whole_y_and_hex_boards(self):
        for side in (1, 2, 3, 4):
            for board in all_boards(side * (side + 1) // 2):
                self.assert_same(worth_of(("y", side), board), int(reference.has_chain(side, board, 1)))
        for rows in range(1, 11):
            for columns in range(1, 10 // rows + 1):
                for board in all_boards(rows * columns):
                    wanted = int(reference.joins(rows, columns, board, 1))
                    self.assert_same(worth_of(("hex", rows, columns), board), wanted)

    def test_drawn_scores_on_all_boards(self):
        for many in (1, 2, 3, 4, 6):
            for deep in (1, 2, 3, 4):
                for score in reference.drawn_scores(31 * many + deep, many, deep, 15):
                    for board in all_boards(many):
                        self.assert_same(worth_of(score, board), reference.worth_of(score, board))

    def test_drawn_scores_of_ten_cells(self):
        for score in reference.drawn_scores(8, 10, 3, 12):
            for board in all_boards(10)[::37]:
                self.assert_same(worth_of(score, board), reference.worth_of(score, board))

    def test_no_worth_is_beyond_the_size(self):
        for score in reference.drawn_scores(9, 3, 4, 60):
            for board in all_boards(3):
                self.assertLessEqual(abs(worth_of(score, board)), reference.size_of(score))

    def test_the_deepest_and_the_most_parts(self):
        score = CELLS[0]
        for _ in range(8):
            score = ("not", score)
        self.assertEqual(self.worths(score, 1), [0, 1])
        self.assertEqual(self.worths(reference.with_parts(200), 1), [0, worth_of(reference.with_parts(200), (1,))])
        leaves = [part for part in reference.parts_of(reference.with_parts(200)).values() if part == CELLS[0]]
        self.assertEqual(worth_of(reference.with_parts(200), (1,)), len(leaves))

    def test_by_names(self):
        self.assert_same(worth_of(board=(0, 1), score=CELLS[1]), 1)


class TestIsRising(Checks, unittest.TestCase):
    def test_what_rises(self):
        both = ("sum", CELLS[0], CELLS[1])
        for score in (
            ("number", -5), CELLS[2], ("y", 1), ("y", 2), ("hex", 1, 3), ("hex", 3, 1), both,
            ("sum", both, ("number", -2)),
            ("least", both, CELLS[2]), ("greatest", both, ("number", 1)), ("times", both, CELLS[2]),
            ("not", ("not", both)),
            ("if", CELLS[0], both, CELLS[1]), ("sum", CELLS[0], ("not", CELLS[0])), ("not", ("number", 3)),
            ("times", ("not", CELLS[0]), ("number", 0)),
        ):
            with self.subTest(score=score):
                self.assertIs(is_rising(3, score), True)

    def test_what_does_not(self):
        for score in (
            ("not", CELLS[0]), ("not", CELLS[2]), ("times", ("number", -1), CELLS[1]),
            ("if", CELLS[0], CELLS[1], CELLS[2]),
            ("times", ("sum", CELLS[0], ("number", -2)), CELLS[1]),
            ("sum", CELLS[0], ("times", ("number", -2), ("y", 2))),
            ("least", CELLS[0], ("not", CELLS[1])), ("greatest", CELLS[0], ("not", CELLS[2])), ("not", ("y", 2)),
            ("if", ("times", CELLS[0], CELLS[1]), ("number", 0), CELLS[2]),
        ):
            with self.subTest(score=score):
                self.assertIs(is_rising(3, score), False)

    def test_y_and_hex_of_ten_cells(self):
        self.assertIs(is_rising(10, ("y", 4)), True)
        self.assertIs(is_rising(10, ("hex", 2, 5)), True)
        self.assertIs(is_rising(10, ("hex", 3, 3)), True)
        self.assertIs(is_rising(10, ("not", ("hex", 5, 2))), False)

    def test_one_fall_on_one_board_is_enough(self):
        for many in (2, 5, 10):
            every = ("least",) + tuple(CELLS[:many])
            self.assertIs(is_rising(many, every), True)
            falling = ("if", every, ("number", many - 2), ("sum",) + tuple(CELLS[:many]))
            self.assertIs(is_rising(many, falling), False)

    def test_beside_a_look_at_all_boards(self):
        seen = set()
        for many in (1, 2, 3, 4):
            for deep in (1, 2, 3):
                for score in reference.drawn_scores(41 * many + deep, many, deep, 40):
                    wanted = wanted_rising(many, score)
                    seen.add(wanted)
                    self.assertIs(is_rising(many, score), wanted, score)
        self.assertEqual(seen, {True, False})

    def test_by_names(self):
        self.assertIs(is_rising(score=("not", CELLS[1]), many=2), False)


class TestDepends(Checks, unittest.TestCase):
    def test_by_hand(self):
        for many, score, wanted in (
            (1, ("number", 3), ()), (1, CELLS[0], (0,)), (3, CELLS[2], (2,)), (3, ("y", 2), (0, 1, 2)),
            (3, ("y", 1), (0,)),
            (10, ("y", 4), tuple(range(10))), (10, ("hex", 3, 2), (0, 1, 2, 3, 4, 5)), (10, CELLS[9], (9,)),
            (3, ("times", CELLS[1], ("number", 0)), ()), (3, ("times", CELLS[2], ("not", CELLS[2])), ()),
            (3, ("greatest", CELLS[1], ("number", 1)), ()), (3, ("least", CELLS[1], ("number", 1)), (1,)),
            (3, ("if", CELLS[2], CELLS[0], CELLS[0]), (0,)), (3, ("if", CELLS[2], CELLS[0], ("number", 0)), (0, 2)),
            (10, ("times", ("times", CELLS[9], CELLS[0]), CELLS[4]), (0, 4, 9)), (2, ("not", CELLS[1]), (1,)),
            (2, ("times", ("number", -1), CELLS[0]), (0,)),
        ):
            self.assert_same(depends(many, score), wanted)

    def test_beside_a_look_at_all_boards(self):
        for many in (1, 2, 3, 4):
            for deep in (1, 2, 3):
                for score in reference.drawn_scores(43 * many + deep, many, deep, 25):
                    self.assert_same(depends(many, score), wanted_depends(many, score))

    def test_the_worth_hangs_on_these_cells_alone(self):
        for score in reference.drawn_scores(44, 4, 3, 40):
            cells = depends(4, score)
            worths = {}
            for board in all_boards(4):
                worths.setdefault(tuple(board[cell] for cell in cells), set()).add(worth_of(score, board))
            self.assertTrue(all(len(found) == 1 for found in worths.values()))

    def test_by_names(self):
        self.assert_same(depends(score=CELLS[1], many=2), (1,))


if __name__ == "__main__":
    unittest.main()
