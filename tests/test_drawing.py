import random
import unittest
from fractions import Fraction
from itertools import permutations
from math import comb, gcd

import drawn
from checks import Checks
from drawnturns.drawing import chance, is_exchangeable, next_chance, numbers_of, parting_rows
from drawnturns.errors import Unfit
from drawn import BAG, CHAIN, COIN, GREAT, URN, all_rows, pair_of

SWAP = ("table", (((0, 1), 1), ((1, 0), 2)))


def sample(seed, number=3, cells=range(1, 6)):
    """Pairs of a number of cells and right draws for it, of all kinds."""
    chooser = random.Random(seed)
    return [(many, draws) for many in cells for draws in drawn.draws_of_all_kinds(chooser, many, number)]


def even_sample(seed, cells=range(1, 6)):
    """Pairs of a number of cells and exchangeable draws for it."""
    chooser = random.Random(seed)
    return [(many, draws) for many in cells for draws in drawn.exchangeable_draws(chooser, many)]


def rows_up_to(many):
    return [row for turns in range(many + 1) for row in all_rows(turns)]


class TestChance(Checks, unittest.TestCase):
    def test_beside_a_look_turn_by_turn(self):
        for many, draws in sample(21):
            for row in rows_up_to(many):
                self.assert_same(chance(many, draws, row), pair_of(drawn.row_chance(draws, row)))

    def test_ten_cells_beside_a_look_turn_by_turn(self):
        chooser = random.Random(22)
        for many, draws in sample(23, 2, (8, 10)):
            for _ in range(25):
                row = tuple(chooser.randrange(2) for _ in range(chooser.randrange(many + 1)))
                self.assert_same(chance(many, draws, row), pair_of(drawn.row_chance(draws, row)))

    def test_a_bag_beside_all_orders_of_its_chits(self):
        for of_a, of_b in ((1, 2), (2, 2), (3, 1), (0, 3), (3, 3)):
            orders = list(permutations([1] * of_a + [0] * of_b))
            for row in rows_up_to(min(of_a + of_b, 4)):
                hits = [order for order in orders if order[:len(row)] == row]
                told = Fraction(len(hits), len(orders))
                self.assert_same(chance(min(of_a + of_b, 4), ("bag", of_a, of_b), row), pair_of(told))

    def test_an_urn_beside_all_ways_to_pick_chits(self):
        for of_a, of_b, more in ((1, 1, 1), (2, 1, 1), (1, 2, 2), (1, 0, 3), (2, 3, 0)):
            lots = {(): [(1,) * of_a + (0,) * of_b]}
            for row in rows_up_to(3):
                if row:
                    lots[row] = [lot + (row[-1],) * more for lot in lots[row[:-1]] for chit in lot if chit == row[-1]]
                whole = 1
                for turn in range(len(row)):
                    whole *= of_a + of_b + turn * more
                told = Fraction(len(lots[row]), whole)
                self.assert_same(chance(3, ("urn", of_a, of_b, more), row), pair_of(told))

    def test_by_hand(self):
        self.assert_same(chance(1, COIN, (1,)), (2, 5))
        self.assert_same(chance(2, COIN, (0, 1)), (6, 25))
        self.assert_same(chance(3, BAG, (1, 0, 1)), (7, 44))
        self.assert_same(chance(3, URN, (0, 0)), (5, 9))
        self.assert_same(chance(4, CHAIN, (1, 1, 0, 0)), (1, 12))
        self.assert_same(chance(2, SWAP, (1,)), (2, 3))
        self.assert_same(chance(2, SWAP, (1, 1)), (0, 1))
        self.assert_same(chance(3, ("row", (0, 1, 1)), (0, 1)), (1, 1))
        self.assert_same(chance(3, ("row", (0, 1, 1)), (0, 0)), (0, 1))

    def test_the_row_of_no_turn(self):
        for many, draws in sample(24):
            self.assert_same(chance(many, draws, ()), (1, 1))

    def test_a_hand_that_is_never_drawn(self):
        for many in range(1, 11):
            for draws in (("coin", 3, 0), ("bag", many, 0), ("urn", 1, 0, 2), ("chain", (2, 0), (1, 0), (1, 1))):
                self.assert_same(chance(many, draws, (1,) * many), (1, 1))
                for turns in range(many):
                    self.assert_same(chance(many, draws, (1,) * turns + (0,)), (0, 1))
                    self.assert_same(chance(many, draws, (1,) * turns + (0,) * (many - turns)), (0, 1))

    def test_a_bag_without_further_chits_of_a_hand(self):
        bag = ("bag", 2, 8)
        self.assert_same(chance(10, bag, (1, 1)), (1, 45))
        self.assert_same(chance(10, bag, (1, 1, 1)), (0, 1))
        self.assert_same(chance(10, bag, (1,) * 10), (0, 1))
        self.assert_same(chance(10, bag, (1, 1) + (0,) * 8), (1, 45))

    def test_the_behind_pairs_of_a_chain_that_never_count(self):
        draws = ("chain", (1, 0), (1, 0), (0, 1))
        self.assert_same([chance(2, draws, row) for row in all_rows(2)], [(0, 1), (0, 1), (0, 1), (1, 1)])

    def test_all_rows_of_a_length_are_1_together(self):
        for many, draws in sample(25, 2):
            for turns in range(many + 1):
                self.assertEqual(sum(Fraction(*chance(many, draws, row)) for row in all_rows(turns)), 1)

    def test_a_row_is_both_its_longer_rows_together(self):
        for many, draws in sample(26, 2):
            for row in rows_up_to(many - 1):
                longer = [Fraction(*chance(many, draws, row + (hand,))) for hand in (0, 1)]
                self.assert_same(chance(many, draws, row), pair_of(sum(longer)))

    def test_lowest_terms(self):
        for many, draws in sample(27):
            for row in rows_up_to(many):
                number, below = chance(many, draws, row)
                self.assertTrue(number >= 0 and below >= 1 and gcd(number, below) == 1)

    def test_great_numbers(self):
        draws = ("mix", tuple((GREAT - place, ("chain", (GREAT, place), (place + 1, GREAT), (GREAT, GREAT)))
                              for place in range(6)))
        row = (1, 0, 1, 1, 0, 0, 1, 0, 1, 1)
        self.assert_same(chance(10, draws, row), pair_of(drawn.row_chance(draws, row)))

    def test_by_names(self):
        self.assert_same(chance(row=(1,), draws=COIN, many=2), (2, 5))


class TestNextChance(Checks, unittest.TestCase):
    def test_beside_a_look_turn_by_turn(self):
        for many, draws in sample(31):
            for row in rows_up_to(many):
                with self.subTest(many=many, draws=draws[0], row=row):
                    if len(row) == many or not drawn.row_chance(draws, row):
                        self.assert_raises(Unfit(), next_chance, many, draws, row)
                    else:
                        self.assert_same(next_chance(many, draws, row), pair_of(drawn.turn_chance(draws, row)))

    def test_rows_of_all_turns(self):
        for many in range(1, 11):
            for draws in (COIN, ("bag", 12, 5), URN, CHAIN, ("row", (1,) * many)):
                self.assert_raises(Unfit(), next_chance, many, draws, (1,) * many)
                self.assertEqual(len(next_chance(many, draws, (1,) * (many - 1))), 2)

    def test_rows_of_no_chance(self):
        for draws, row in (
            (("coin", 0, 1), (1,)), (("coin", 1, 0), (1, 0)), (("bag", 1, 3), (1, 1)), (("urn", 0, 1, 1), (0, 1)),
            (("chain", (1, 1), (0, 1), (1, 1)), (1, 1)), (("row", (1, 0, 1)), (0,)), (("row", (1, 0, 1)), (1, 1)),
            (("table", (((0, 1, 1), 2),)), (1,)), (("mix", ((1, ("coin", 0, 1)), (1, ("coin", 1, 0)))), (1, 0)),
        ):
            self.assert_raises(Unfit(), next_chance, 3, draws, row)
            self.assert_raises(Unfit(), next_chance, draws=draws, row=row + (0,) * (3 - len(row)), many=3)

    def test_a_turn_that_must_be_a_hands(self):
        self.assert_same(next_chance(3, ("row", (1, 0, 1)), ()), (1, 1))
        self.assert_same(next_chance(3, ("row", (1, 0, 1)), (1,)), (0, 1))
        self.assert_same(next_chance(4, ("bag", 1, 3), (1,)), (0, 1))
        self.assert_same(next_chance(4, ("bag", 1, 3), (0, 0, 0)), (1, 1))

    def test_it_tells_the_longer_row(self):
        for many, draws in sample(32, 2):
            for row in rows_up_to(many - 1):
                if chance(many, draws, row) != (0, 1):
                    told = Fraction(*chance(many, draws, row)) * Fraction(*next_chance(many, draws, row))
                    self.assert_same(chance(many, draws, row + (1,)), pair_of(told))

    def test_with_exchangeable_draws_the_order_plays_no_part(self):
        for many, draws in even_sample(33):
            told = {}
            for row in rows_up_to(many - 1):
                if chance(many, draws, row) != (0, 1):
                    told.setdefault((len(row), sum(row)), set()).add(next_chance(many, draws, row))
            self.assertTrue(all(len(found) == 1 for found in told.values()))

    def test_by_names(self):
        self.assert_same(next_chance(draws=URN, row=(1, 0), many=5), (4, 9))


class TestNumbersOf(Checks, unittest.TestCase):
    def wanted(self, many, draws):
        told = [Fraction(0)] * (many + 1)
        for row, share in drawn.whole_chances(many, draws).items():
            told[sum(row)] += share
        return tuple(pair_of(share) for share in told)

    def test_beside_a_look_at_all_rows(self):
        for many, draws in sample(41) + even_sample(42):
            self.assert_same(numbers_of(many, draws), self.wanted(many, draws))

    def test_ten_cells(self):
        for many, draws in sample(43, 1, (9, 10)):
            self.assert_same(numbers_of(many, draws), self.wanted(many, draws))

    def test_by_hand(self):
        self.assert_same(numbers_of(10, ("urn", 1, 1, 1)), ((1, 11),) * 11)
        self.assert_same(numbers_of(10, ("coin", 1, 1)), tuple(pair_of(Fraction(comb(10, k), 1024)) for k in range(11)))
        self.assert_same(numbers_of(4, ("bag", 1, 3)), ((0, 1), (1, 1), (0, 1), (0, 1), (0, 1)))
        self.assert_same(numbers_of(3, ("row", (0, 1, 1))), ((0, 1), (0, 1), (1, 1), (0, 1)))
        self.assert_same(numbers_of(2, SWAP), ((0, 1), (1, 1), (0, 1)))
        self.assert_same(numbers_of(1, COIN), ((3, 5), (2, 5)))

    def test_an_exchangeable_row_has_its_part(self):
        for many, draws in even_sample(44):
            numbers = numbers_of(many, draws)
            for row in all_rows(many):
                part = Fraction(*numbers[sum(row)]) / comb(many, sum(row))
                self.assert_same(chance(many, draws, row), pair_of(part))

    def test_numbers_that_a_table_is_made_for(self):
        for numbers in ([1, 0, 3], [0, 0, 1], [2, 5, 7], [1, 1, 1, 1], [0, 4, 0, 3], [3, 0, 0, 0, 1]):
            many = len(numbers) - 1
            scale = 12
            rows = [(row, numbers[sum(row)] * scale // comb(many, sum(row))) for row in all_rows(many)]
            table = ("table", tuple(pair for pair in rows if pair[1]))
            wanted = tuple(pair_of(Fraction(number, sum(numbers))) for number in numbers)
            self.assert_same(numbers_of(many, table), wanted)
            self.assertIs(is_exchangeable(many, table), True)

    def test_by_names(self):
        self.assert_same(numbers_of(draws=COIN, many=1), ((3, 5), (2, 5)))


class TestExchangeable(Checks, unittest.TestCase):
    def test_beside_a_look_at_all_pairs_of_rows(self):
        told = set()
        for many, draws in sample(51, 6) + even_sample(52):
            wanted = drawn.least_parting_rows(many, draws)
            told.add(wanted is None)
            self.assert_same(parting_rows(many, draws), wanted)
            self.assertIs(is_exchangeable(many, draws), wanted is None)
        self.assertEqual(told, {True, False})

    def test_tables_that_part_by_one_row(self):
        for many in (2, 3, 4):
            for odd in all_rows(many):
                for weight in (1, 3):
                    rows = tuple((row, weight if row == odd else 2) for row in all_rows(many))
                    wanted = drawn.least_parting_rows(many, ("table", rows))
                    self.assert_same(parting_rows(many, ("table", rows)), wanted)
                    self.assertIs(wanted is None, sum(odd) in (0, many))

    def test_tables_without_a_row(self):
        for many in (2, 3, 4):
            for odd in all_rows(many):
                table = ("table", tuple((row, 1) for row in all_rows(many) if row != odd))
                self.assert_same(parting_rows(many, table), drawn.least_parting_rows(many, table))

    def test_what_is_exchangeable(self):
        for many, draws in even_sample(53, range(1, 11)):
            with self.subTest(many=many, draws=draws[0]):
                self.assertIs(is_exchangeable(many, draws), True)
                self.assertIsNone(parting_rows(many, draws))

    def test_one_cell(self):
        for many, draws in sample(54, 4, (1,)):
            self.assertIs(is_exchangeable(1, draws), True)

    def test_rows(self):
        for many in range(1, 7):
            for row in all_rows(many):
                even = sum(row) in (0, many)
                self.assertIs(is_exchangeable(many, ("row", row)), even)
                if not even:
                    first = (0,) * (many - sum(row)) + (1,) * sum(row)
                    other = row if row != first else next(r for r in all_rows(many) if sum(r) == sum(row) and r > first)
                    self.assert_same(parting_rows(many, ("row", row)), (first, other))

    def test_chains_that_are_coins_and_two_turns(self):
        self.assertIs(is_exchangeable(10, ("chain", (1, 2), (2, 4), (3, 6))), True)
        self.assertIs(is_exchangeable(2, ("chain", (1, 1), (2, 1), (1, 2))), True)
        self.assertIs(is_exchangeable(3, ("chain", (1, 1), (2, 1), (1, 2))), False)
        self.assert_same(parting_rows(4, ("chain", (1, 1), (2, 1), (1, 2))), ((0, 0, 0, 1), (0, 0, 1, 0)))

    def test_rows_that_even_out_in_a_mix(self):
        parts = tuple((2, ("row", row)) for row in all_rows(3) if sum(row) == 1)
        self.assertIs(is_exchangeable(3, ("mix", parts)), True)
        self.assertIs(is_exchangeable(3, ("mix", parts[:2])), False)
        self.assertIs(is_exchangeable(3, ("mix", parts + ((1, ("row", (1, 0, 0))),))), False)

    def test_ten_cells_that_part_late(self):
        rows = tuple((row, 3 if row == (1,) * 9 + (0,) else 2) for row in all_rows(10))
        wanted = ((0,) + (1,) * 9, (1,) * 9 + (0,))
        self.assert_same(parting_rows(10, ("table", rows)), wanted)
        self.assert_same(parting_rows(10, ("mix", ((1, COIN), (GREAT, ("table", rows))))), wanted)

    def test_by_names(self):
        self.assertIs(is_exchangeable(draws=COIN, many=3), True)
        self.assert_same(parting_rows(draws=SWAP, many=2), ((0, 1), (1, 0)))


class TestGreatOnes(Checks, unittest.TestCase):
    def test_mixes_of_six_tables_of_all_rows_of_ten_turns(self):
        chooser = random.Random(61)
        tables = [tuple((row, chooser.randrange(1, GREAT + 1)) for row in all_rows(10)) for _ in range(6)]
        mix = ("mix", tuple((GREAT, ("table", table)) for table in tables))
        wholes = [sum(weight for _, weight in table) for table in tables]
        for row in chooser.sample(all_rows(10), 5) + [()]:
            shares = [
                Fraction(sum(weight for one, weight in table if one[:len(row)] == row), whole)
                for table, whole in zip(tables, wholes)
            ]
            self.assert_same(chance(10, mix, row), pair_of(sum(shares) / 6))
        self.assertEqual(sum(Fraction(*number) for number in numbers_of(10, mix)), 1)
        self.assert_same(parting_rows(10, mix), ((0,) * 9 + (1,), (0,) * 8 + (1, 0)))
        self.assertIs(is_exchangeable(10, mix), False)

    def test_mixes_of_six_chains(self):
        parts = tuple((GREAT - k, ("chain", (GREAT - k, 7), (k + 1, GREAT), (GREAT, k))) for k in range(6))
        self.assertEqual(sum(Fraction(*number) for number in numbers_of(10, ("mix", parts))), 1)
        self.assertIs(is_exchangeable(10, ("mix", parts)), False)


if __name__ == "__main__":
    unittest.main()
