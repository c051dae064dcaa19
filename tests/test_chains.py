import random
import unittest
from itertools import combinations, product

from boards import drawn_triangles, greater_hexes, small_hexes, small_triangles
from checks import Checks
from drawnturns.chains import chain, chain_error, owner
from drawnturns.gametree import worth_at
from drawnturns.hexes import hex_in_y, hex_owner
from drawnturns.means import mean_at
from drawnturns.triangles import last_owner, reduced
from plays import begun
from reference import groups, has_chain, is_integer, triangle_cells, triangle_near, triangle_sides

LEFT, OTHER = (1, 0, 1, 1, 1, 0), (0, 0, 1, 1, 0, 0)


def all_triangles():
    """All small boards, and some of all other sides, each with its side."""
    return small_triangles() + [(side, board) for side in range(5, 13) for board in drawn_triangles(side, side, 12)]


def error_of(side, board, value):
    """What the document says of value, word by word, with a search of its own."""
    numbers = range(len(board))
    if type(value) is not tuple or value == () or not all(is_integer(item) and item in numbers for item in value):
        return "form"
    if list(value) != sorted(set(value)):
        return "form"
    hand = 1 if has_chain(side, board, 1) else 0
    for cell in value:
        if board[cell] != hand:
            return ("owner", cell)
    cells = [triangle_cells(side)[cell] for cell in value]
    if len(groups(cells, triangle_near)) > 1:
        return "apart"
    missing = {0, 1, 2} - set().union(*[triangle_sides(side, cell) for cell in cells])
    return ("side", min(missing)) if missing else None


class TestOwner(Checks, unittest.TestCase):
    def test_beside_a_search_and_last_owner(self):
        for side, board in all_triangles():
            told = owner(side, board)
            self.assert_same(told, 1 if has_chain(side, board, 1) else 0)
            self.assert_same(told, last_owner(side, board))
            self.assertNotEqual(has_chain(side, board, 0), has_chain(side, board, 1))

    def test_it_is_that_of_the_reduced_board(self):
        for side, board in all_triangles():
            if side > 1:
                self.assertEqual(owner(side - 1, reduced(side, board)), owner(side, board))

    def test_it_is_exchanged_with_the_hands(self):
        for side, board in all_triangles():
            self.assertEqual(owner(side, tuple(1 - hand for hand in board)), 1 - owner(side, board))

    def test_a_cell_more_for_a_does_no_harm(self):
        chooser = random.Random(321)
        for side, board in all_triangles():
            if owner(side, board) == 1:
                cell = chooser.randrange(len(board))
                self.assertEqual(owner(side, board[:cell] + (1,) + board[cell + 1:]), 1)

    def test_full_ones_and_thin_ones(self):
        for side in range(1, 13):
            for hand in (0, 1):
                full = [hand] * (side * (side + 1) // 2)
                self.assert_same(owner(side, tuple(full)), hand)
                # The last row alone touches all sides.
                full[-side:] = [1 - hand] * side
                self.assert_same(owner(side, tuple(full)), 1 - hand)
                full[-1] = hand
                if side > 1:
                    self.assert_same(owner(side, tuple(full)), hand)

    def test_a_winding_chain(self):
        board = (
            0,
            0, 0,
            1, 1, 1,
            1, 0, 0, 0,
            1, 1, 1, 1, 0,
            0, 0, 0, 0, 1, 0,
        )
        self.assert_same(owner(6, board), 1)
        self.assertIsNone(chain_error(6, board, (3, 4, 5, 6, 10, 11, 12, 13, 19)))
        cut = board[:12] + (0,) + board[13:]
        self.assert_same(owner(6, cut), 0)
        self.assertIsNone(chain_error(6, cut, chain(6, cut)))

    def test_hex_boards_in_triangles(self):
        for rows, columns, board in small_hexes()[::3] + greater_hexes():
            side, standing, places = hex_in_y(rows, columns)
            filled = list(standing)
            for place, hand in zip(places, board):
                filled[place] = hand
            self.assert_same(owner(side, tuple(filled)), hex_owner(rows, columns, board))

    def test_one_half_is_the_worth_of_y_and_of_square_hex_boards(self):
        even = ("table", (((0, 0, 1), 2), ((0, 1, 0), 5), ((1, 0, 1), 5), ((1, 1, 0), 2)))
        for draws in (("coin", 1, 1), ("coin", 7, 7), ("bag", 6, 6), ("urn", 2, 2, 3), ("urn", 1, 1, 0)):
            for many, score in [(10, ("y", side)) for side in (1, 2, 3, 4)] + [(9, ("hex", n, n)) for n in (1, 2, 3)]:
                self.assert_same(mean_at(draws, score, begun(many)), (1, 2))
                if score[1] < 3:
                    self.assert_same(worth_at(draws, score, begun(5)), (1, 2))
        for draws in (even, ("chain", (1, 1), (2, 3), (3, 2)), ("mix", ((1, even), (3, ("coin", 1, 1))))):
            self.assert_same(worth_at(draws, ("y", 2), begun(3)), (1, 2))
            self.assert_same(worth_at(draws, ("hex", 1, 1), begun(3)), (1, 2))

    def test_by_names(self):
        self.assert_same(owner(board=LEFT, side=3), 1)


class TestChain(Checks, unittest.TestCase):
    def test_it_is_a_chain_of_the_owner(self):
        for side, board in all_triangles():
            told = chain(side, board)
            self.assertEqual([type(told)] + [type(cell) for cell in told], [tuple] + [int] * len(told))
            self.assertIsNone(error_of(side, board, told))
            self.assertIsNone(chain_error(side, board, told))
            self.assertEqual({board[cell] for cell in told}, {owner(side, board)})
            self.assert_same(chain(side, board), told)

    def test_one_cell_and_other_thin_ones(self):
        for hand in (0, 1):
            self.assert_same(chain(1, (hand,)), (0,))
            rest = 1 - hand
            self.assert_same(chain(2, (hand, hand, rest)), (0, 1))
            self.assert_same(chain(2, (rest, hand, hand)), (1, 2))
            self.assert_same(chain(3, (rest, rest, rest, hand, hand, hand)), (3, 4, 5))
            for side in range(2, 13):
                row = (hand,) * side
                first = side * (side - 1) // 2
                self.assert_same(chain(side, (rest,) * first + row), tuple(range(first, first + side)))

    def test_by_names(self):
        self.assert_same(chain(board=(0, 1, 1), side=2), (1, 2))


class TestChainError(Checks, unittest.TestCase):
    def check(self, side, board, value):
        wanted = error_of(side, board, value)
        self.assert_same(chain_error(side, board, value), wanted)
        return wanted

    def test_all_ascending_tuples_of_small_triangles(self):
        told = set()
        for side, board in small_triangles():
            if side < 4:
                numbers = range(len(board))
                for size in range(len(board) + 1):
                    for value in combinations(numbers, size):
                        told.add(self.check(side, board, value))
        self.assertLessEqual({None, "form", "apart", ("side", 0), ("side", 1), ("side", 2), ("owner", 5)}, told)

    def test_all_tuples_of_a_small_triangle(self):
        for board in ((0, 1, 1), (0, 0, 1), (1, 1, 1)):
            for size in range(4):
                for value in product(range(-1, 4), repeat=size):
                    self.check(2, board, value)

    def test_drawn_tuples_of_greater_triangles(self):
        chooser = random.Random(323)
        told = set()
        for side in range(4, 13):
            for board in drawn_triangles(324 + side, side, 12):
                whole = chain(side, board)
                mine = [cell for cell, hand in enumerate(board) if hand == owner(side, board)]
                less = list(whole)
                less.remove(chooser.choice(whole))
                values = [less, sorted(chooser.sample(mine, chooser.randrange(1, len(mine) + 1))), mine,
                          [chooser.choice(mine)], sorted(chooser.sample(range(len(board)), side)), whole[::-1]]
                for value in values:
                    wanted = self.check(side, board, tuple(value))
                    told.add(wanted if wanted is None else wanted[0] if type(wanted) is tuple else wanted)
        self.assertEqual(told, {None, "form", "apart", "owner", "side"})

    def test_what_is_no_ascending_tuple_of_cells(self):
        for value in ((), [], [0, 1], [3], None, True, 0, "0", "", {0: 1}, {}, (True,), (False, 1), (0, True), ((0,),),
                      (0, 0), (1, 0), (0, 2, 1), (0, 1, 1), (-1, 0), (0, 6), (6,), (0, 1, 10 ** 400), (0, "1"),
                      (0, None), (0, 1, (4,)), ("0", "1"), range(3), (0, 1, 4, 5, 6)):
            self.assert_same(chain_error(3, OTHER, value), "form")

    def test_words_in_their_order(self):
        # A's cells are 2 and 3, B's are 0, 1, 4 and 5, and B is the owner.
        for value, wanted in (
            ((2, 3), ("owner", 2)), ((0, 3, 2), "form"), ((3, 6), "form"), ((0, 3), ("owner", 3)),
            ((0, 2, 3, 5), ("owner", 2)), ((0, 5), "apart"), ((0, 4), "apart"), ((1, 5), "apart"), ((0, 1, 5), "apart"),
            ((0,), ("side", 2)), ((5,), ("side", 0)), ((4,), ("side", 0)), ((1,), ("side", 1)), ((0, 1), ("side", 2)),
            ((4, 5), ("side", 0)), ((1, 4), ("side", 1)), ((1, 4, 5), None), ((0, 1, 4), None), ((0, 1, 4, 5), None),
        ):
            self.assert_same(chain_error(3, OTHER, value), wanted)

    def test_single_cells_and_a_side_of_one(self):
        for hand in (0, 1):
            self.assert_same([chain_error(1, (hand,), value) for value in ((0,), (1,), (0, 0), (), (hand == 0,))],
                             [None, "form", "form", "form", "form"])
            self.assert_same([chain_error(2, (hand,) * 3, (cell,)) for cell in (0, 1, 2)],
                             [("side", 2), ("side", 1), ("side", 0)])
            self.assert_same(chain_error(3, (hand,) * 6, (2,)), ("side", 0))
            self.assert_same(chain_error(4, (hand,) * 10, (4,)), ("side", 0))
            self.assert_same(chain_error(2, (1 - hand, hand, hand), (0,)), ("owner", 0))

    def test_any_values(self):
        for side, board in ((1, (1,)), (3, LEFT), (12, (0, 1) * 39)):
            self.with_any_values(lambda value: self.assert_same(
                chain_error(side, board, value), error_of(side, board, value)))

    def test_great_boards(self):
        for draws in drawn_triangles(325, 12, 5):
            self.check(12, draws, tuple(range(78)))
            self.check(12, draws, tuple(range(4000)))

    def test_by_names(self):
        self.assertIsNone(chain_error(value=(0, 2, 3, 4), board=LEFT, side=3))


if __name__ == "__main__":
    unittest.main()
