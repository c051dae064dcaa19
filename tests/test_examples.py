"""Each row of the document's examples, by its parts; names that were set stay set."""

import unittest
from pathlib import Path

from checks import Checks, rows_of, run_rows

FOLDER = Path(__file__).parent


class TestExamples(Checks, unittest.TestCase):
    def run_file(self, name, least_rows):
        text = (FOLDER / name).read_text(encoding="ascii")
        self.assertGreaterEqual(len(rows_of(text)), least_rows)
        run_rows(self, text)

    def test_standings_and_positions(self):
        self.run_file("examples_a.txt", 18)

    def test_scores(self):
        self.run_file("examples_b.txt", 28)

    def test_triangles_and_hex_boards(self):
        self.run_file("examples_g.txt", 14)

    def test_draws(self):
        self.run_file("examples_c.txt", 31)

    def test_means_worths_and_best_cells(self):
        self.run_file("examples_d.txt", 24)

    def test_scores_that_part_worth_and_mean(self):
        self.run_file("examples_e.txt", 10)

    def test_all_chances(self):
        self.run_file("examples_f.txt", 18)

    def test_lengths(self):
        self.run_file("examples_h.txt", 18)

    def test_players(self):
        self.run_file("examples_i.txt", 18)

    def test_full_boards(self):
        self.run_file("examples_j.txt", 9)

    def test_games(self):
        self.run_file("examples_k.txt", 27)

    def test_shells(self):
        self.run_file("examples_l.txt", 10)


if __name__ == "__main__":
    unittest.main()
