import random
import unittest

import drawn
from checks import Checks
from drawnturns.drawkinds import draws_error
from drawn import BAG, CHAIN, COIN, GREAT, URN

ODD = (None, True, False, -1, GREAT + 1, 10 ** 399, -10 ** 399, "1", "", (), (1,), [], [1], {}, {0: 1})


def with_item(value, way, item):
    """The tuple value with item at the way in it."""
    if not way:
        return item
    return value[:way[0]] + (with_item(value[way[0]], way[1:], item),) + value[way[0] + 1:]


def ways_in(value, way=()):
    """The ways to all items of a tuple, and of the tuples in it."""
    found = [way]
    if isinstance(value, tuple):
        for place, item in enumerate(value):
            found += ways_in(item, way + (place,))
    return found


class TestRightOnes(Checks, unittest.TestCase):
    def test_each_kind_for_each_number_of_cells(self):
        chooser = random.Random(11)
        for many in range(1, 11):
            for draws in drawn.draws_of_all_kinds(chooser, many, 6):
                with self.subTest(many=many, draws=draws[0]):
                    self.assertIsNone(draws_error(many, draws))

    def test_the_least_and_the_greatest_numbers(self):
        for pair in ((0, 1), (1, 0), (0, GREAT), (GREAT, 0), (GREAT, GREAT)):
            self.assertIsNone(draws_error(1, ("coin",) + pair))
            self.assertIsNone(draws_error(1, ("bag",) + pair))
            self.assertIsNone(draws_error(3, ("urn",) + pair + (0,)))
            self.assertIsNone(draws_error(3, ("urn",) + pair + (GREAT,)))
            self.assertIsNone(draws_error(3, ("chain", pair, pair[::-1], pair)))
        self.assertIsNone(draws_error(1, ("mix", ((GREAT, COIN), (1, COIN)))))
        self.assertIsNone(draws_error(1, ("table", (((0,), GREAT), ((1,), 1)))))

    def test_whole_tables_and_full_mixes(self):
        for many in range(1, 11):
            table = ("table", tuple((row, 1 + sum(row)) for row in drawn.all_rows(many)))
            self.assertIsNone(draws_error(many, table))
            self.assertIsNone(draws_error(many, ("mix", ((GREAT, table),) * 6)))

    def test_bags_of_just_as_many_chits_as_cells(self):
        for many in range(1, 11):
            for of_a in range(many + 1):
                self.assertIsNone(draws_error(many, ("bag", of_a, many - of_a)))


class TestDrawsError(Checks, unittest.TestCase):
    def tell(self, many, value, wanted):
        with self.subTest(many=many, value=repr(value)[:80]):
            self.assert_same(draws_error(many, value), wanted)

    def test_form(self):
        for value in (None, 1, "coin", [], ["coin", 1, 1], (), (1, 2), (None,), (("coin",), 1, 1), {"coin": 1}, True):
            self.tell(2, value, "form")

    def test_kind(self):
        for word in ("", "coins", "Coin", "coin ", " bag", "number", "cell", "rows", "mixed", "chain1"):
            self.tell(2, (word, 1, 1), "kind")
            self.tell(2, (word,), "kind")

    def test_how_many_numbers(self):
        for value in (COIN, BAG, URN, CHAIN):
            for length in range(1, len(value)):
                self.tell(2, value[:length], "numbers")
            self.tell(2, value + value[-1:], "numbers")

    def test_each_number(self):
        for value in (COIN, BAG, URN):
            for place in range(1, len(value)):
                for item in ODD:
                    self.tell(2, with_item(value, (place,), item), "numbers")
        for place in (1, 2, 3):
            for at in (0, 1):
                for item in ODD:
                    self.tell(2, with_item(CHAIN, (place, at), item), "numbers")

    def test_pairs_of_a_chain(self):
        for place in (1, 2, 3):
            for item in (None, 1, [1, 1], (1,), (1, 1, 1), (0, 0), {0: 1, 1: 1}, "11", ((1, 1), (1, 1))):
                self.tell(2, with_item(CHAIN, (place,), item), "numbers")

    def test_both_counts_0(self):
        for value in (("coin", 0, 0), ("bag", 0, 0), ("urn", 0, 0, 0), ("urn", 0, 0, 5)):
            self.tell(1, value, "numbers")
        for place in (1, 2, 3):
            self.tell(1, with_item(CHAIN, (place,), (0, 0)), "numbers")

    def test_bags_of_fewer_chits_than_cells(self):
        for many in range(2, 11):
            for of_a in range(many):
                self.tell(many, ("bag", of_a, many - 1 - of_a), "bag")
        self.tell(2, ("bag", 1), "numbers")
        self.tell(10, ("bag", 1, True), "numbers")
        self.tell(10, ("urn", 1, 1, 0), None)
        self.tell(10, ("coin", 1, 1), None)

    def test_row(self):
        for value in (
            ("row",), ("row", (1, 0), (1, 0)), ("row", (1,)), ("row", (1, 0, 1)), ("row", ()), ("row", [1, 0]),
            ("row", "AB"), ("row", None), ("row", 1, 0), ("row", (1, 2)), ("row", (True, 0)), ("row", (1, None)),
            ("row", (-1, 0)), ("row", ((1,), (0,))), ("row", {0: 1, 1: 0}),
        ):
            self.tell(2, value, "row")

    def test_parts(self):
        for value in (
            ("mix",), ("mix", ()), ("mix", [(1, COIN)]), ("mix", (1, COIN), (1, COIN)), ("mix", None), ("mix", "mix"),
            ("mix", ((1, COIN),) * 7), ("mix", {1: COIN}), ("mix", ((1, COIN),), 1), ("mix", 1, COIN),
        ):
            self.tell(2, value, "parts")
        for length in range(1, 7):
            self.tell(2, ("mix", ((1, COIN),) * length), None)

    def test_the_words_of_a_part(self):
        inner = ("mix", ((1, COIN),))
        for part, wanted in (
            (None, "form"), ([1, COIN], "form"), ((1,), "form"), ((1, COIN, 1), "form"), ((), "form"), (COIN, "form"),
            ((0, COIN), "weight"), ((True, COIN), "weight"), ((GREAT + 1, COIN), "weight"), ((None, None), "weight"),
            ((-1, inner), "weight"), (("1", COIN), "weight"), ((1, inner), "mix"), ((1, ("mix",)), "mix"),
            ((1, ("mix", None, 3)), "mix"), ((1, "mix"), "form"), ((1, ["mix", ((1, COIN),)]), "form"),
            ((1, None), "form"), ((1, ()), "form"), ((1, ("mixed",)), "kind"), ((1, ("coin", 1)), "numbers"),
            ((1, ("bag", 1, 0)), "bag"), ((1, ("row", (1,))), "row"), ((1, ("table", ())), "rows"),
            ((1, ("table", (((1,), 1),))), ("row", 0)), ((1, ("table", (((1, 1), 1), ((1, 1), 1)))), ("order", 1)),
            ((1, ("table", (((1, 1), 0),))), ("weight", 0)), ((1, BAG), None),
        ):
            for place in range(6):
                parts = ((2, URN),) * place + (part,) + ((3, CHAIN),) * (5 - place)
                self.tell(2, ("mix", parts), None if wanted is None else ("part", place, wanted))

    def test_the_first_wrong_part_is_told(self):
        self.tell(2, ("mix", ((1, COIN), (1, ("row", (1,))), (0, COIN), None)), ("part", 1, "row"))
        self.tell(2, ("mix", ((1, COIN), (0, COIN), None)), ("part", 1, "weight"))
        self.tell(2, ("mix", ((1, ("bag", 1, 0)), None)), ("part", 0, "bag"))

    def test_rows(self):
        for value in (
            ("table",), ("table", ()), ("table", [((1, 1), 1)]), ("table", ((1, 1), 1), ((1, 1), 1)), ("table", None),
            ("table", {(1, 1): 1}), ("table", (((1, 1), 1),), 1), ("table", "AB 1"),
        ):
            self.tell(2, value, "rows")

    def test_the_rows_of_a_table(self):
        right = (((0, 0), 1), ((0, 1), 2), ((1, 0), 3), ((1, 1), GREAT))
        for pair in (
            None, (), ((0, 1),), ((0, 1), 1, 1), [(0, 1), 1], ([0, 1], 1), ((0,), 1), ((0, 1, 1), 1), ((0, 2), 1),
            ((0, True), 1), ((False, 1), 1), ((0, None), 1), (None, 1), ("01", 1), (1, (0, 1)),
        ):
            for place in range(4):
                self.tell(2, ("table", right[:place] + (pair,) + right[place + 1:]), ("row", place))
        for weight in (0, -1, GREAT + 1, True, None, "1", (1,), [1], 10 ** 399):
            for place in range(4):
                pairs = right[:place] + ((right[place][0], weight),) + right[place + 1:]
                self.tell(2, ("table", pairs), ("weight", place))

    def test_the_order_of_a_table(self):
        rows = [row for row in drawn.all_rows(2)]
        for one in rows:
            for other in rows:
                for last in rows:
                    wanted = None if one < other < last else ("order", 1 if one >= other else 2)
                    self.tell(2, ("table", ((one, 1), (other, 1), (last, 1))), wanted)

    def test_the_words_of_a_table_in_their_order(self):
        self.tell(2, ("table", (((1, 1), 0), ((0, 0), 0), ((0, 2), 1), None)), ("row", 2))
        self.tell(2, ("table", (((0, 0), 0), ((1, 1), 1), ((0, 1), 1), ((0, 0), 1))), ("order", 2))
        self.tell(2, ("table", (((0, 0), 1), ((0, 1), 0), ((1, 1), 0))), ("weight", 1))

    def test_form_ahead_of_kind_ahead_of_the_rest(self):
        self.tell(2, [["coins"]], "form")
        self.tell(2, ("coins", 0, 0), "kind")
        self.tell(9, ("bag", 0, 0), "numbers")
        self.tell(9, ("bag", 1, 2), "bag")

    def test_the_number_of_cells_decides(self):
        table = ("table", (((0, 1), 1), ((1, 0), 1)))
        for many in range(1, 11):
            self.tell(many, ("row", (1, 0, 1)), None if many == 3 else "row")
            self.tell(many, table, None if many == 2 else ("row", 0))
            self.tell(many, ("mix", ((1, COIN), (1, table))), None if many == 2 else ("part", 1, ("row", 0)))
            self.tell(many, ("bag", 2, 3), None if many <= 5 else "bag")

    def test_right_ones_with_an_item_changed(self):
        chooser = random.Random(12)
        told = set()
        for many in (1, 2, 3):
            for draws in drawn.draws_of_all_kinds(chooser, many, 5):
                for way in ways_in(draws):
                    for item in chooser.sample(ODD, 3) + [0, 1, 2, "mix", "row", COIN, (0, 1), (1, COIN)]:
                        value = with_item(draws, way, item)
                        wanted = drawn.draws_error(many, value)
                        told.add(wanted if isinstance(wanted, str) else wanted and wanted[0])
                        self.assert_same(draws_error(many, value), wanted)
        words = {None, "form", "kind", "numbers", "row", "parts", "rows", "part", "order", "weight"}
        self.assertLessEqual(words, told)

    def test_right_ones_with_an_item_left_out_or_doubled(self):
        chooser = random.Random(13)
        for many in (1, 2, 3):
            for draws in drawn.draws_of_all_kinds(chooser, many, 4):
                for way in ways_in(draws)[1:]:
                    here = draws
                    for step in way[:-1]:
                        here = here[step]
                    place = way[-1]
                    for other in (here[:place] + here[place + 1:], here[:place + 1] + here[place:], list(here)):
                        value = with_item(draws, way[:-1], other)
                        self.assert_same(draws_error(many, value), drawn.draws_error(many, value))

    def test_any_values(self):
        for many in (1, 2, 10):
            self.with_any_values(lambda value: self.assert_same(
                draws_error(many, value), drawn.draws_error(many, value)))

    def test_any_values_inside(self):
        def check(value):
            for whole in (
                ("coin", value, 1), ("coin", value), ("bag", 1, value), ("urn", 1, 1, value), ("row", value),
                ("chain", (1, 1), value, (1, 1)), ("mix", value), ("mix", (value,)), ("mix", ((1, COIN), value)),
                ("mix", ((value, COIN),)), ("mix", ((1, value),)), ("table", value), ("table", (value,)),
                ("table", ((value, 1),)), ("table", (((1, 1), value),)), (value, 1, 1), (value,),
            ):
                self.assert_same(draws_error(2, whole), drawn.draws_error(2, whole))
        self.with_any_values(check)

    def test_by_names(self):
        self.assertIsNone(draws_error(value=COIN, many=4))
        self.assert_same(draws_error(many=10, value=("bag", 4, 5)), "bag")

    def test_again(self):
        value = ("mix", [(1, ["coin"])])
        self.assertEqual([draws_error(2, value), draws_error(2, value), value], ["parts", "parts", value])


if __name__ == "__main__":
    unittest.main()
