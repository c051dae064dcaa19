import random
import unittest

import drawn
from checks import Checks
from drawnturns.drawtexts import draws_text, read_draws
from drawnturns.errors import BadDraws, BadText
from drawn import BAG, CHAIN, COIN, GREAT, URN

SIGNS = "".join([chr(number) for number in range(32, 127)]) + "\n"
PLAIN = "ABC 0123456789,;of\n-+_.minxtablecoinbagurnchainrow"
ROW = ("row", (1, 0, 0))
TABLE = ("table", (((0, 1, 1), 4), ((1, 0, 0), 15)))
MIX = ("mix", ((3, COIN), (10, BAG), (1, URN), (2, CHAIN), (7, ROW), (GREAT, TABLE)))
TEXTS = (
    (COIN, "coin 2 3"), (BAG, "bag 7 5"), (URN, "urn 1 2 3"), (CHAIN, "chain 1 1, 2 1, 1 3"), (ROW, "row ABB"),
    (TABLE, "table BAA 4, ABB 15"),
    (MIX, "mix 3 of coin 2 3; 10 of bag 7 5; 1 of urn 1 2 3; 2 of chain 1 1, 2 1, 1 3; 7 of row ABB; "
          "1000000 of table BAA 4, ABB 15"),
    (("coin", 0, GREAT), "coin 0 1000000"), (("urn", GREAT, 0, 0), "urn 1000000 0 0"),
    (("chain", (0, 1), (10, 0), (0, 100)), "chain 0 1, 10 0, 0 100"),
    (("table", (((0, 0, 0), 1),)), "table BBB 1"), (("mix", ((1, ROW),)), "mix 1 of row ABB"),
)


class TestDrawsText(Checks, unittest.TestCase):
    def test_texts(self):
        for draws, text in TEXTS:
            self.assert_same(draws_text(draws), text)
            self.assert_same(read_draws(3, text), draws)

    def test_texts_tell_their_draws(self):
        chooser = random.Random(71)
        for many in range(1, 11):
            for draws in drawn.draws_of_all_kinds(chooser, many, 5):
                text = draws_text(draws)
                self.assertIs(type(text), str)
                self.assert_same(drawn.told_draws(text), draws)
                self.assert_same(read_draws(many, text), draws)

    def test_unlike_draws_have_unlike_texts(self):
        chooser = random.Random(72)
        found = {}
        for many in (1, 2, 3):
            for draws in drawn.draws_of_all_kinds(chooser, many, 60):
                self.assertEqual(found.setdefault(draws_text(draws), draws), draws)

    def test_by_names(self):
        self.assert_same(draws_text(draws=COIN), "coin 2 3")
        self.assert_same(read_draws(value="coin 2 3", many=1), COIN)


class TestReadDraws(Checks, unittest.TestCase):
    def check(self, many, value):
        """read_draws does with value what the document says."""
        draws = drawn.told_draws(value)
        if draws is None:
            self.assert_raises(BadText(0), read_draws, many, value)
            return
        error = drawn.draws_error(many, draws)
        if error is None:
            self.assert_same(read_draws(many, value), draws)
        else:
            self.assert_raises(BadDraws(error), read_draws, many, value)

    def bad(self, value):
        for many in (1, 3, 10):
            with self.subTest(value=value[:60], many=many):
                self.assert_raises(BadText(0), read_draws, many, value)

    def test_a_sign_left_out_put_in_exchanged(self):
        chooser = random.Random(73)
        for _, text in TEXTS:
            for place in range(len(text)):
                self.check(3, text[:place] + text[place + 1:])
                self.check(3, text[:place] + text[place:place + 1] * 2 + text[place + 1:])
                self.check(3, text[:place])
                for sign in chooser.sample(PLAIN, 12):
                    self.check(3, text[:place] + sign + text[place:])
                    self.check(3, text[:place] + sign + text[place + 1:])

    def test_every_sign_at_every_place_of_short_texts(self):
        for text in ("coin 2 3", "row AB", "bag 1 1", "table AB 1"):
            for place in range(len(text) + 1):
                for sign in SIGNS:
                    self.check(2, text[:place] + sign + text[place:])
                    self.check(2, text[:place] + sign + text[place + 1:])

    def test_two_signs_exchanged(self):
        for _, text in TEXTS:
            for place in range(len(text) - 1):
                self.check(3, text[:place] + text[place + 1] + text[place] + text[place + 2:])

    def test_drawn_texts_that_were_changed(self):
        chooser = random.Random(74)
        for many in (1, 2, 3, 10):
            for draws in drawn.draws_of_all_kinds(chooser, many, 12):
                text = draws_text(draws)
                for _ in range(12):
                    place = chooser.randrange(len(text))
                    end = place + chooser.randrange(4)
                    put = "".join(chooser.choice(PLAIN) for _ in range(chooser.randrange(3)))
                    self.check(many, text[:place] + put + text[end:])

    def test_blanks(self):
        for _, text in TEXTS:
            for place, sign in enumerate(text):
                if sign == " ":
                    self.bad(text[:place] + " " + text[place:])
            for other in (" " + text, text + " ", text + "\n", "\n" + text):
                self.bad(other)

    def test_noughts_ahead_and_signs_of_numbers(self):
        for text in (
            "coin 02 3", "coin 2 03", "coin 00 3", "bag 7 05", "urn 1 2 03", "chain 01 1, 2 1, 1 3",
            "mix 03 of coin 1 1", "table AB 01", "coin +2 3", "coin -2 3", "coin -0 3", "coin 2_0 3", "coin 2. 3",
            "coin 0x2 3", "coin 1e1 3", "table AB +1", "mix +1 of coin 1 1", "coin \t2 3",
        ):
            self.bad(text)

    def test_numbers_that_are_too_great(self):
        for text in (
            "coin 1000001 1", "coin 1 1000001", "bag 10000000 1", "urn 1 1 1000001", "urn 1 1 99999999999999999999",
            "chain 1 1, 1 1, 1 1000001", "mix 1000001 of coin 1 1", "table A 1000001", "coin 1 " + "9" * 5000,
            "coin " + "1" * 19000 + " 1", "mix " + "1" * 19000 + " of coin 1 1", "table A " + "1" * 19000,
        ):
            self.bad(text)

    def test_draws_that_are_wrong_for_whatever_number_of_cells(self):
        for text in (
            "coin 0 0", "bag 0 0", "urn 0 0 1", "chain 1 1, 0 0, 1 1", "table AA 1, BB 1", "table AA 1, AA 1",
            "table A 0", "table A 1, AB 1", "mix 0 of coin 1 1", "mix 1 of row A; 1 of row AB", "row ABABABABABA",
            "mix 1 of bag 1 0; 1 of row AB", "mix 1 of mix 1 of coin 1 1", "mix 1 of table BA 1; 1 of table BAA 1",
            "mix " + "; ".join(["1 of coin 1 1"] * 7), "mix 1 of coin 0 0", "table BA 1, AB 0",
        ):
            self.bad(text)

    def test_what_is_no_text_of_draws(self):
        for text in (
            "", " ", "coin", "coin ", "coin 1", "coin 1 1 1", "coin 1 1 ", "coins 1 1", "Coin 1 1", "coin,1 1", "bag",
            "urn 1 1", "urn 1 1 1 1", "chain 1 1, 1 1", "chain 1 1,1 1, 1 1", "chain 1 1 1 1 1 1", "chain 1, 1, 1",
            "chain 1 1, 1 1, 1 1, 1 1", "row", "row ", "row 10", "row ab", "row A B", "row A,B", "row ABC", "mix",
            "mix ", "mix 1", "mix 1 of", "mix 1 of ", "mix of coin 1 1", "mix 1 of coin 1 1;", "mix 1 of coin 1 1; ",
            "mix 1 of coin 1 1;1 of coin 1 1", "mix 1 of coin 1 1, 1 of coin 1 1", "mix coin 1 1", "mix 1 coin 1 1",
            "mix 1  of coin 1 1", "mix 1 of  coin 1 1", "table", "table ", "table A", "table 1", "table A 1,",
            "table A 1, ", "table B 1,A 1", "table B 1; A 1", "table A 1 1", "table  A 1", "table 1 A",
            "coin 1 1\n", "coin 1 1; 1 of coin 1 1", "number 1 1", "cell 0", "c0", "coin 1 of 1",
        ):
            self.bad(text)

    def test_right_for_another_number_of_cells(self):
        for many in range(1, 11):
            for length in range(1, 11):
                for text, wrong in (
                    ("row " + "BABABABABA"[:length], "row"),
                    ("table " + "ABBABABABA"[:length] + " 3", ("row", 0)),
                    ("mix 1 of coin 1 1; 1 of row " + "A" * length, ("part", 1, "row")),
                    ("mix 2 of table " + "B" * length + " 9", ("part", 0, ("row", 0))),
                ):
                    if many == length:
                        self.assertIsInstance(read_draws(many, text), tuple)
                    else:
                        self.assert_raises(BadDraws(wrong), read_draws, many, text)

    def test_bags_of_few_chits(self):
        for many in range(1, 11):
            for chits in range(1, 12):
                for of_a in (0, 1, chits):
                    text = f"bag {of_a} {chits - of_a}"
                    mixed = "mix 1 of " + text
                    if chits >= many:
                        self.assert_same(read_draws(many, text), ("bag", of_a, chits - of_a))
                        self.assert_same(read_draws(many, mixed), ("mix", ((1, ("bag", of_a, chits - of_a)),)))
                    else:
                        self.assert_raises(BadDraws("bag"), read_draws, many, text)
                        self.assert_raises(BadDraws(("part", 0, "bag")), read_draws, many, mixed)

    def test_the_first_thing_wrong_is_told(self):
        self.assert_raises(BadDraws(("part", 0, "bag")), read_draws, 4, "mix 1 of bag 1 1; 1 of row AB")
        self.assert_raises(BadDraws(("part", 1, "row")), read_draws, 1, "mix 1 of bag 1 1; 1 of row AB")

    def test_long_texts(self):
        self.bad("row " + "A" * 19990)
        self.bad("mix 1 of " * 2200 + "coin 1 1")
        self.bad("mix " + "; ".join(["1 of coin 1 1"] * 1200))
        self.bad("table " + ", ".join(["A 1"] * 3900))
        self.bad("chain " + ", ".join(["1 1"] * 3900))
        self.bad("coin" + " 1" * 9900)
        self.bad("coin 1 1" + " " * 19900)
        rows = drawn.all_rows(10)
        table = ("table", tuple((row, place + 1) for place, row in enumerate(rows)))
        self.assert_same(read_draws(10, draws_text(table)), table)
        self.assert_raises(BadDraws(("row", 0)), read_draws, 9, draws_text(table))

    def test_any_values(self):
        for many in (1, 2, 10):
            self.with_any_values(lambda value: self.check(many, value))

    def test_values_that_are_no_string(self):
        for value in (None, 1, True, b"coin 1 1", ["coin 1 1"], ("coin", 1, 1), {"coin 1 1": 1}, COIN, TABLE):
            self.assert_raises(BadText(0), read_draws, 3, value)

    def test_again(self):
        for _ in range(2):
            self.assert_same(read_draws(3, "row ABB"), ROW)
            self.assert_raises(BadText(0), read_draws, 3, "row")


if __name__ == "__main__":
    unittest.main()
