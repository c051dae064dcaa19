import unittest

from boards import SHAPES, greater_hexes, small_hexes
from checks import Checks
from drawnturns.hexes import hex_in_y, hex_near, hex_owner, hex_path
from drawnturns.triangles import last_owner
from reference import has_chain, hex_cells, hex_near_one, joins, triangle_cells


class TestHexNear(Checks, unittest.TestCase):
    def test_all_cells_of_all_shapes(self):
        for rows, columns in SHAPES:
            cells = hex_cells(rows, columns)
            for number, cell in enumerate(cells):
                wanted = tuple(n for n, other in enumerate(cells) if hex_near_one(cell, other))
                self.assert_same(hex_near(rows, columns, number), wanted)

    def test_corners_and_sides(self):
        for rows, columns, cell, wanted in (
            (1, 1, 0, ()), (1, 3, 0, (1,)), (1, 3, 1, (0, 2)), (1, 3, 2, (1,)), (3, 1, 1, (0, 2)), (3, 1, 2, (1,)),
            (3, 3, 0, (1, 3)), (3, 3, 2, (1, 4, 5)), (3, 3, 6, (3, 4, 7)), (3, 3, 8, (5, 7)), (3, 3, 3, (0, 1, 4, 6)),
            (3, 3, 5, (2, 4, 7, 8)), (2, 4, 3, (2, 6, 7)), (2, 4, 4, (0, 1, 5)),
        ):
            self.assert_same(hex_near(rows, columns, cell), wanted)

    def test_by_names(self):
        self.assert_same(hex_near(cell=0, columns=3, rows=2), (1, 3))


class TestHexOwner(Checks, unittest.TestCase):
    def test_just_one_hand_joins_on_all_small_hexes(self):
        for rows, columns, board in small_hexes():
            owner = hex_owner(rows, columns, board)
            self.assert_same(owner, int(joins(rows, columns, board, 1)))
            self.assertEqual(joins(rows, columns, board, 0), owner == 0)

    def test_greater_hexes(self):
        for rows, columns, board in greater_hexes():
            self.assert_same(hex_owner(rows, columns, board), int(joins(rows, columns, board, 1)))

    def test_one_row_and_one_column(self):
        self.assert_same(hex_owner(1, 4, (0, 0, 1, 0)), 1)
        self.assert_same(hex_owner(1, 4, (0, 0, 0, 0)), 0)
        self.assert_same(hex_owner(4, 1, (1, 1, 0, 1)), 0)
        self.assert_same(hex_owner(4, 1, (1, 1, 1, 1)), 1)
        self.assert_same(hex_owner(1, 1, (1,)), 1)
        self.assert_same(hex_owner(1, 1, (0,)), 0)

    def test_by_names(self):
        self.assert_same(hex_owner(board=(0, 1), columns=2, rows=1), 1)
        self.assert_same(hex_owner(board=(0, 1), columns=1, rows=2), 0)


class TestHexPath(Checks, unittest.TestCase):
    def check(self, rows, columns, board):
        """hex_path is a path of the owner from its first line to its last one."""
        path = hex_path(rows, columns, board)
        owner = int(joins(rows, columns, board, 1))
        self.assertTrue(type(path) is tuple and all(type(cell) is int for cell in path), path)
        cells = [hex_cells(rows, columns)[cell] for cell in path]
        self.assertEqual(len(set(path)), len(path))
        self.assertGreaterEqual(min(path), 0)
        self.assertEqual({board[cell] for cell in path}, {owner})
        self.assertTrue(all(hex_near_one(one, other) for one, other in zip(cells, cells[1:])), path)
        at, last = (0, rows - 1) if owner == 1 else (1, columns - 1)
        self.assertEqual((cells[0][at], cells[-1][at]), (0, last))
        self.assertEqual(hex_path(rows, columns, board), path)

    def test_all_small_hexes(self):
        for rows, columns, board in small_hexes():
            self.check(rows, columns, board)

    def test_greater_hexes(self):
        for rows, columns, board in greater_hexes():
            self.check(rows, columns, board)

    def test_a_winding_path(self):
        board = (
            1, 0, 0, 0, 0,
            1, 0, 1, 1, 1,
            1, 1, 0, 0, 1,
            0, 0, 0, 1, 1,
            1, 1, 1, 0, 0,
        )
        self.assert_same(hex_owner(5, 5, board), 1)
        self.check(5, 5, board)
        turned = tuple(1 - board[(cell % 5) * 5 + cell // 5] for cell in range(25))
        self.assert_same(hex_owner(5, 5, turned), 0)
        self.check(5, 5, turned)

    def test_by_names(self):
        self.assert_same(hex_path(board=(0, 1, 0), rows=1, columns=3), (1,))
        self.assert_same(hex_path(board=(0, 0, 0), rows=1, columns=3), (0, 1, 2))


class TestHexInY(Checks, unittest.TestCase):
    def test_all_shapes(self):
        for rows, columns in SHAPES:
            side = rows + columns - 1
            cells = triangle_cells(side)
            places = tuple(cells.index((i + j, j)) for i, j in hex_cells(rows, columns))
            standing = tuple(
                None if number in places else 1 if r - c >= rows else 0 for number, (r, c) in enumerate(cells)
            )
            self.assert_same(hex_in_y(rows, columns), (side, standing, places))

    def test_the_owner_of_the_triangle_is_that_of_the_hex_board(self):
        for rows, columns, board in small_hexes() + greater_hexes():
            side, standing, places = hex_in_y(rows, columns)
            filled = list(standing)
            for place, hand in zip(places, board):
                filled[place] = hand
            self.assertEqual(last_owner(side, tuple(filled)), hex_owner(rows, columns, board))
            if rows * columns == 6:
                self.assertEqual(has_chain(side, filled, 1), joins(rows, columns, board, 1))

    def test_by_hand(self):
        self.assert_same(hex_in_y(1, 1), (1, (None,), (0,)))
        self.assert_same(hex_in_y(2, 1), (2, (None, None, 0), (0, 1)))
        self.assert_same(hex_in_y(1, 3), (3, (None, 1, None, 1, 1, None), (0, 2, 5)))
        self.assert_same(hex_in_y(2, 3)[0], 4)

    def test_by_names(self):
        self.assert_same(hex_in_y(columns=2, rows=1), (2, (None, 1, None), (0, 2)))


if __name__ == "__main__":
    unittest.main()
