import random
import unittest

import outcomes
import reference
from checks import Checks
from drawnturns.deciding import is_decided
from plays import all_boards, all_standings

CELLS = [("cell", cell) for cell in range(10)]


class TestIsDecided(Checks, unittest.TestCase):
    def test_all_standings_of_few_cells_beside_all_fillings(self):
        told = {True: 0, False: 0}
        for many in (1, 2, 3, 4):
            for score in reference.drawn_scores(331 + many, many, 2, 40):
                for standing in all_standings(many)[::1 if many < 4 else 5]:
                    wanted = outcomes.is_decided(score, standing)
                    told[wanted] += 1
                    self.assert_same(is_decided(score, standing), wanted)
        self.assertGreater(min(told.values()), 400)

    def test_more_cells(self):
        chooser = random.Random(336)
        for many in (6, 8, 10):
            for score in reference.drawn_scores(337, many, 2, 12) + [("y", 3), ("hex", 2, 3)]:
                for empty in (0, 1, 3, 5):
                    cells = chooser.sample(range(many), empty)
                    standing = tuple(None if cell in cells else chooser.randrange(2) for cell in range(many))
                    self.assert_same(is_decided(score, standing), outcomes.is_decided(score, standing))

    def test_full_standings(self):
        for many in (1, 3, 5):
            for score in reference.drawn_scores(338, many, 3, 10):
                for board in all_boards(many):
                    self.assert_same(is_decided(score, board), True)

    def test_ten_empty_cells(self):
        nothing = (None,) * 10
        for score in (("number", -3), ("sum", CELLS[7], ("not", CELLS[7])), ("times", ("number", 0), ("y", 4)),
                      ("if", ("number", 0), CELLS[3], ("number", 9)), ("least", ("y", 4), ("number", -1))):
            self.assert_same(is_decided(score, nothing), True)
        for score in (CELLS[0], CELLS[9], ("y", 4), ("hex", 2, 5), ("sum", *CELLS), ("least", *CELLS),
                      ("greatest", *CELLS), ("sum", ("y", 4), ("number", -1))):
            self.assert_same(is_decided(score, nothing), False)
        boards = ("sum",) + tuple(("sum",) + (("hex", 2, 5), ("y", 4)) * 5 for _ in range(10))
        self.assert_same(is_decided(boards, nothing), False)

    def test_one_board_of_many_is_enough(self):
        for hand in (0, 1):
            word = "least" if hand else "greatest"
            for cell in range(10):
                standing = (hand,) * cell + (None,) + (hand,) * (9 - cell)
                self.assert_same(is_decided((word, *CELLS), standing), False)
                for other in range(10):
                    turned = standing[:other] + (1 - hand,) + standing[other + 1:]
                    self.assert_same(is_decided((word, *CELLS), turned), True)

    def test_chains(self):
        self.assert_same(is_decided(("y", 2), (1, 1, None)), True)
        self.assert_same(is_decided(("y", 2), (None, 0, 0)), True)
        self.assert_same(is_decided(("y", 2), (1, 0, None)), False)
        self.assert_same(is_decided(("y", 2), (1, 0, 1, None, None)), True)
        self.assert_same(is_decided(("hex", 2, 2), (None, 1, 1, None)), True)
        self.assert_same(is_decided(("hex", 2, 2), (1, None, None, 1)), False)
        self.assert_same(is_decided(("hex", 1, 3), (None, 1, None)), True)
        self.assert_same(is_decided(("hex", 3, 1), (None, 1, None)), False)

    def test_it_stays_decided(self):
        for score in reference.drawn_scores(339, 3, 2, 40):
            for standing in all_standings(3):
                if is_decided(score, standing):
                    for cell in range(3):
                        if standing[cell] is None:
                            for hand in (0, 1):
                                more = standing[:cell] + (hand,) + standing[cell + 1:]
                                self.assert_same(is_decided(score, more), True)

    def test_by_names(self):
        self.assert_same(is_decided(standing=(None, 1), score=CELLS[1]), True)
        self.assert_same(is_decided(standing=(None, 1), score=CELLS[0]), False)


if __name__ == "__main__":
    unittest.main()
