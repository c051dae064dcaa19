import random
import unittest
from itertools import product

from checks import Checks, any_values
from drawnturns.errors import Unfit
from drawnturns.positions import empty_cells, fillings, position_error, taken
from plays import all_boards, all_positions, all_standings, begun, behind, played

GREAT = 10 ** 399


def is_one_of(item, hands):
    """Whether item is one of hands, and of its class."""
    return any(type(item) is type(hand) and item == hand for hand in hands)


def wanted_error(many, value):
    """What the document says of value, word by word."""
    if type(value) is not tuple or len(value) != 2 or [type(part) for part in value] != [tuple, tuple]:
        return "form"
    row, standing = value
    if len(row) > many or [item for item in row if not is_one_of(item, (0, 1))]:
        return "row"
    if len(standing) != many:
        return "many"
    wrong = [cell for cell in range(many) if not is_one_of(standing[cell], (0, 1, None))]
    if wrong:
        return ("cell", wrong[0])
    numbers = [(len([x for x in row if x == hand]), len([x for x in standing if x == hand])) for hand in (0, 1)]
    return "number" if [pair for pair in numbers if pair[0] != pair[1]] else None


class TestPositionError(Checks, unittest.TestCase):
    def test_all_pairs_of_up_to_three_cells(self):
        for many in (1, 2, 3):
            right = all_positions(many)
            rows = [row for turns in range(many + 1) for row in product((0, 1), repeat=turns)]
            for row in rows:
                for standing in all_standings(many):
                    wanted = None if (row, standing) in right else "number"
                    self.assert_same(position_error(many, (row, standing)), wanted)

    def test_positions_of_one_cell_to_ten(self):
        chooser = random.Random(1)
        for many in range(1, 11):
            for turns in range(many + 1):
                for _ in range(5):
                    self.assertIsNone(position_error(many, played(chooser, many, turns)))

    def test_empty_and_full_ones(self):
        for many in range(1, 11):
            for hand in (0, 1):
                self.assertIsNone(position_error(many, ((hand,) * many, (hand,) * many)))
            self.assertIsNone(position_error(many, begun(many)))

    def test_as_many_turns_as_cells_and_one_more(self):
        for many in range(1, 11):
            self.assertIsNone(position_error(many, ((0,) * many, (0,) * many)))
            self.assert_same(position_error(many, ((0,) * (many + 1), (0,) * many)), "row")
            self.assert_same(position_error(many, ((0,) * (many + 1), (0,) * (many + 1))), "row")

    def test_a_standing_of_another_number_of_cells(self):
        for many in range(1, 11):
            for other in range(13):
                if other != many:
                    self.assert_same(position_error(many, ((), (None,) * other)), "many")

    def test_form(self):
        for value in (
            None, (), ((),), ((), (), ()), [(), (None, None)], ((), [None, None]), ([], (None, None)),
            ([], [None, None]), {0: (), 1: (None, None)}, "ab", ("", (None, None)), ((), None), (None, (None, None)),
            ({}, (None, None)), ((), "AB"), ((7,), [None, None]), ((0, 0, 0), None), 2, True,
        ):
            with self.subTest(value=value):
                self.assert_same(position_error(2, value), "form")

    def test_each_item_of_a_row(self):
        for wrong in (None, True, False, 2, -1, GREAT, -GREAT, "1", "A", (), (1,), [], [1], {}):
            for place in range(3):
                row = (1,) * place + (wrong,) + (1,) * (2 - place)
                with self.subTest(row=row):
                    self.assert_same(position_error(3, (row, (1, 1, 1))), "row")
                    self.assert_same(position_error(3, (row, row)), "row")
                    self.assert_same(position_error(3, (row, ())), "row")

    def test_each_item_of_a_standing(self):
        for wrong in (True, False, 2, -1, GREAT, -GREAT, "1", "A", ".", (), (None,), [], [1], {}):
            for cell in range(4):
                standing = (None,) * cell + (wrong,) + (None,) * (3 - cell)
                with self.subTest(standing=standing):
                    self.assert_same(position_error(4, ((), standing)), ("cell", cell))
                    self.assert_same(position_error(4, ((1, 1), standing)), ("cell", cell))

    def test_the_first_wrong_cell_is_told(self):
        self.assert_same(position_error(4, ((), (None, 2, True, "A"))), ("cell", 1))
        self.assert_same(position_error(4, ((), (False, None, None, 7))), ("cell", 0))
        self.assert_same(position_error(4, ((1,), (1, 1, 1, 7))), ("cell", 3))

    def test_the_words_in_their_order(self):
        self.assert_same(position_error(2, ((2, 2, 2), [7, 7, 7])), "form")
        self.assert_same(position_error(2, ((2,), (7, 7, 7))), "row")
        self.assert_same(position_error(2, ((0, 0, 0), (7, 7, 7))), "row")
        self.assert_same(position_error(2, ((0,), (7, 7, 7))), "many")
        self.assert_same(position_error(2, ((0,), (7, 7))), ("cell", 0))
        self.assert_same(position_error(2, ((0,), (1, None))), "number")

    def test_number(self):
        for value in (
            ((), (1, None, None)), ((), (0, None, None)), ((1,), (None, None, None)), ((0,), (None, None, None)),
            ((1,), (0, None, None)), ((0,), (1, None, None)), ((1, 0), (1, 1, None)), ((1, 0), (0, 0, None)),
            ((1, 0), (1, 0, 0)), ((1, 0), (1, 0, 1)), ((1, 0, 1), (1, 0, None)), ((1, 0, 0), (1, 0, None)),
        ):
            with self.subTest(value=value):
                self.assert_same(position_error(3, value), "number")

    def test_odd_rows_and_standings_by_the_words_of_the_document(self):
        rows = [(), (0,), (1,), (1, 0), (0, 1, 1), (1, 1), (True,), (0, 2), (None,), [], None, (1, 0, 1, 0), "A"]
        standings = [
            (None, None), (0, None), (1, 0), (None,), (1, 1), (True, 1), (0, "B"), (None, -1), [], "AB",
            (0, 1, 1), (None, None, None), (1, False, 3),
        ]
        for many in (1, 2, 3):
            for value in product(rows, standings):
                with self.subTest(many=many, value=value):
                    self.assert_same(position_error(many, value), wanted_error(many, value))

    def test_any_values(self):
        for many in (1, 2, 10):
            self.with_any_values(lambda value: self.assert_same(position_error(many, value), wanted_error(many, value)))

    def test_any_values_inside_of_pairs(self):
        def check(value):
            for pair in ((value, (None, None)), ((), value), (value, value), ((value,), (None, None)),
                         ((), (None, value)), ((1, value), (1, value))):
                self.assert_same(position_error(2, pair), wanted_error(2, pair))
        self.with_any_values(check)

    def test_by_names(self):
        self.assertIsNone(position_error(value=begun(3), many=3))
        self.assert_same(position_error(many=2, value=begun(3)), "many")

    def test_again(self):
        value = ([], {})
        self.assertEqual([position_error(2, value), position_error(2, value), value], ["form", "form", ([], {})])


class TestEmptyCells(Checks, unittest.TestCase):
    def test_all_standings_of_few_cells(self):
        for many in range(1, 6):
            for standing in all_standings(many):
                wanted = tuple(cell for cell in range(many) if standing[cell] not in (0, 1))
                self.assert_same(empty_cells(standing), wanted)

    def test_none_and_all(self):
        self.assert_same(empty_cells((0,) * 10), ())
        self.assert_same(empty_cells((None,) * 10), (0, 1, 2, 3, 4, 5, 6, 7, 8, 9))

    def test_by_name(self):
        self.assert_same(empty_cells(standing=(None, 1, 0, None)), (0, 3))


class TestTaken(Checks, unittest.TestCase):
    def test_all_positions_of_few_cells(self):
        for many in (1, 2, 3):
            for position in sorted(all_positions(many), key=repr):
                for hand, cell in product((0, 1), range(many)):
                    if position[1][cell] is None:
                        self.assert_same(taken(position, hand, cell), behind(position, hand, cell))
                    else:
                        self.assert_raises(Unfit(), taken, position, hand, cell)

    def test_what_comes_is_a_position_and_the_cell_alone_is_taken(self):
        chooser = random.Random(2)
        for many in range(1, 11):
            position = played(chooser, many, chooser.randrange(many))
            for cell in empty_cells(position[1]):
                for hand in (0, 1):
                    got = taken(position, hand, cell)
                    self.assertIsNone(position_error(many, got))
                    self.assert_same(got, behind(position, hand, cell))
                    left = tuple(other for other in empty_cells(position[1]) if other != cell)
                    self.assert_same(empty_cells(got[1]), left)

    def test_wrong_hands(self):
        for hand in (None, True, False, 2, -1, GREAT, -GREAT, "A", "1", (), (1,), [], [0], {}):
            with self.subTest(hand=hand):
                self.assert_raises(Unfit(), taken, begun(2), hand, 0)

    def test_wrong_cells(self):
        for cell in (None, True, False, 2, -1, -2, GREAT, -GREAT, "0", (), (0,), [], [0], {}):
            with self.subTest(cell=cell):
                self.assert_raises(Unfit(), taken, begun(2), 1, cell)

    def test_a_full_position_is_taken_no_more(self):
        for cell in range(-1, 4):
            self.assert_raises(Unfit(), taken, ((1, 0, 1), (1, 0, 1)), 1, cell)

    def test_any_values_as_hand(self):
        def check(value):
            if type(value) is int and value in (0, 1):
                self.assert_same(taken(begun(3), value, 2), ((value,), (None, None, value)))
            else:
                self.assert_raises(Unfit(), taken, begun(3), value, 2)
        self.with_any_values(check)

    def test_any_values_as_cell(self):
        position = ((0,), (0, None, None))

        def check(value):
            if type(value) is int and value in (1, 2):
                self.assert_same(taken(position, 1, value), behind(position, 1, value))
            else:
                self.assert_raises(Unfit(), taken, position, 1, value)
        self.with_any_values(check)

    def test_any_values_as_both(self):
        for value in any_values():
            if type(value) is not int or value not in (0, 1):
                self.assert_raises(Unfit(), taken, begun(1), value, value)

    def test_by_names(self):
        self.assert_same(taken(cell=1, hand=0, position=begun(2)), ((0,), (None, 0)))
        self.assert_same(taken(position=begun(2), hand=1, cell=0), ((1,), (1, None)))
        self.assert_raises(Unfit(), taken, cell=2, hand=0, position=begun(2))

    def test_what_is_handed_in_stays(self):
        position = ((1,), (None, 1))
        self.assert_same(taken(position, 0, 0), ((1, 0), (0, 1)))
        self.assert_same(position, ((1,), (None, 1)))
        self.assert_same(taken(position, 0, 0), ((1, 0), (0, 1)))


class TestFillings(Checks, unittest.TestCase):
    def test_all_standings_of_few_cells(self):
        for many in range(1, 6):
            for standing in all_standings(many):
                wanted = tuple(
                    board for board in all_boards(many)
                    if all(standing[cell] in (None, board[cell]) for cell in range(many))
                )
                self.assert_same(fillings(standing), wanted)

    def test_there_are_as_many_as_told(self):
        for many in range(1, 11):
            for empty in range(many + 1):
                found = fillings((None,) * empty + (1,) * (many - empty))
                self.assertEqual(len(found), 2 ** empty)
                self.assertEqual(list(found), sorted(set(found)))

    def test_a_board_has_itself_alone(self):
        for board in all_boards(4):
            self.assert_same(fillings(board), (board,))

    def test_either_taking_gives_a_part(self):
        for standing in all_standings(4):
            for cell in empty_cells(standing):
                parts = [fillings(standing[:cell] + (hand,) + standing[cell + 1:]) for hand in (0, 1)]
                self.assertEqual(sorted(parts[0] + parts[1]), list(fillings(standing)))
                self.assertFalse(set(parts[0]) & set(parts[1]))

    def test_by_name(self):
        self.assert_same(fillings(standing=(None, 0)), ((0, 0), (1, 0)))


class TestManyPositions(unittest.TestCase):
    def test_a_standing_lies_in_as_many_positions_as_there_are_rows(self):
        for many in (1, 2, 3):
            for standing in all_standings(many):
                rows = [row for row in product((0, 1), repeat=many - len(empty_cells(standing)))]
                right = [row for row in rows if position_error(many, (row, standing)) is None]
                ones = standing.count(1)
                self.assertEqual(right, [row for row in rows if sum(row) == ones])


if __name__ == "__main__":
    unittest.main()
