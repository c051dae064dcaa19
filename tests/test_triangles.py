import unittest

from boards import drawn_triangles, small_triangles
from checks import Checks
from drawnturns.errors import Unfit
from drawnturns.triangles import last_owner, near, reduced, touches
from reference import has_chain, triangle_cells, triangle_near, triangle_sides


class TestNear(Checks, unittest.TestCase):
    def test_all_cells_of_all_sides(self):
        for side in range(1, 13):
            cells = triangle_cells(side)
            for number, cell in enumerate(cells):
                wanted = tuple(n for n, other in enumerate(cells) if triangle_near(cell, other))
                self.assert_same(near(side, number), wanted)

    def test_corners_and_sides(self):
        for side, cell, wanted in (
            (1, 0, ()), (2, 0, (1, 2)), (2, 1, (0, 2)), (2, 2, (0, 1)), (3, 3, (1, 4)), (3, 5, (2, 4)),
            (4, 1, (0, 2, 3, 4)), (4, 4, (1, 2, 3, 5, 7, 8)), (4, 8, (4, 5, 7, 9)), (12, 0, (1, 2)),
            (12, 66, (55, 67)), (12, 77, (65, 76)), (12, 70, (58, 59, 69, 71)),
        ):
            self.assert_same(near(side, cell), wanted)

    def test_by_names(self):
        self.assert_same(near(cell=0, side=2), (1, 2))


class TestTouches(Checks, unittest.TestCase):
    def test_all_cells_of_all_sides(self):
        for side in range(1, 13):
            for number, cell in enumerate(triangle_cells(side)):
                self.assert_same(touches(side, number), tuple(sorted(triangle_sides(side, cell))))

    def test_corners_and_sides(self):
        for side, cell, wanted in (
            (1, 0, (0, 1, 2)), (2, 0, (0, 1)), (2, 1, (0, 2)), (2, 2, (1, 2)), (4, 4, ()), (4, 3, (0,)), (4, 5, (1,)),
            (4, 7, (2,)), (4, 6, (0, 2)), (4, 9, (1, 2)), (12, 66, (0, 2)), (12, 77, (1, 2)), (12, 70, (2,)),
        ):
            self.assert_same(touches(side, cell), wanted)

    def test_by_names(self):
        self.assert_same(touches(cell=1, side=3), (0,))


class TestReduced(Checks, unittest.TestCase):
    def wanted(self, side, board):
        """The reduced board, by coordinates."""
        hands = dict(zip(triangle_cells(side), board))
        return tuple(
            1 if [hands[r, c], hands[r + 1, c], hands[r + 1, c + 1]].count(1) > 1 else 0
            for r, c in triangle_cells(side - 1)
        )

    def test_all_small_triangles(self):
        for side, board in small_triangles():
            if side > 1:
                self.assert_same(reduced(side, board), self.wanted(side, board))

    def test_greater_boards(self):
        for side in range(5, 13):
            for board in drawn_triangles(side, side, 20):
                self.assert_same(reduced(side, board), self.wanted(side, board))

    def test_a_side_of_one(self):
        for board in ((0,), (1,)):
            self.assert_raises(Unfit(), reduced, 1, board)
            self.assert_raises(Unfit(), reduced, board=board, side=1)

    def test_by_names_and_again(self):
        board = (1, 0, 1)
        self.assert_same(reduced(board=board, side=2), (1,))
        self.assert_same(reduced(2, board), (1,))
        self.assert_same(board, (1, 0, 1))


class TestLastOwner(Checks, unittest.TestCase):
    def test_just_one_hand_has_a_chain_on_all_small_triangles(self):
        for side, board in small_triangles():
            owner = last_owner(side, board)
            self.assert_same(owner, int(has_chain(side, board, 1)))
            self.assertEqual(has_chain(side, board, 0), owner == 0)

    def test_greater_boards(self):
        for side in range(5, 13):
            for board in drawn_triangles(100 + side, side, 12):
                self.assert_same(last_owner(side, board), int(has_chain(side, board, 1)))
                self.assertNotEqual(has_chain(side, board, 0), has_chain(side, board, 1))

    def test_one_cell_and_full_ones(self):
        for side in range(1, 13):
            for hand in (0, 1):
                self.assert_same(last_owner(side, (hand,) * (side * (side + 1) // 2)), hand)

    def test_it_is_the_last_owner_of_the_reduced_board(self):
        for side, board in small_triangles():
            if side > 1:
                self.assertEqual(last_owner(side, board), last_owner(side - 1, reduced(side, board)))

    def test_it_is_exchanged_with_the_hands(self):
        for side, board in small_triangles():
            self.assertEqual(last_owner(side, tuple(1 - hand for hand in board)), 1 - last_owner(side, board))

    def test_a_cell_more_for_a_does_no_harm(self):
        for side, board in small_triangles():
            for cell in range(len(board)):
                more = board[:cell] + (1,) + board[cell + 1:]
                self.assertLessEqual(last_owner(side, board), last_owner(side, more))

    def test_by_names(self):
        self.assert_same(last_owner(board=(0, 1, 1), side=2), 1)


if __name__ == "__main__":
    unittest.main()
