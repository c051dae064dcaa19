import random
import unittest
from itertools import product

from checks import Checks
from drawnturns.errors import BadPosition, BadText
from drawnturns.positiontexts import position_text, read_position
from plays import all_positions, begun, played

SIGNS = "".join([chr(number) for number in range(32, 127)]) + "\n"


def all_texts(many):
    """All texts of which each sign can stand, whatever the numbers of turns are."""
    rows = ["-"] + ["".join(row) for turns in range(1, many + 1) for row in product("AB", repeat=turns)]
    cells = ["".join(signs) for signs in product("AB.", repeat=many)]
    return [one + " " + row for one in cells for row in rows]


def beginnings(texts):
    """The set of all beginnings of the texts, the empty one and the whole ones too."""
    return {text[:length] for text in texts for length in range(len(text) + 1)}


class TestPositionText(Checks, unittest.TestCase):
    def test_texts(self):
        for position, text in (
            (((), (None,)), ". -"),
            (((1,), (1,)), "A A"),
            (((0,), (0,)), "B B"),
            (((0, 1), (1, None, 0)), "A.B BA"),
            (((1, 0), (1, None, 0)), "A.B AB"),
            (begun(10), ".......... -"),
            (((1, 0) * 5, (0,) * 5 + (1,) * 5), "BBBBBAAAAA ABABABABAB"),
        ):
            self.assert_same(position_text(position), text)
            self.assert_same(read_position(len(position[1]), text), position)

    def test_unlike_positions_have_unlike_texts_that_tell_them(self):
        for many in (1, 2, 3):
            positions = all_positions(many)
            self.assertEqual(len({position_text(position) for position in positions}), len(positions))
            for position in positions:
                self.assert_same(read_position(many, position_text(position)), position)

    def test_one_cell_to_ten(self):
        chooser = random.Random(3)
        for many in range(1, 11):
            for turns in range(many + 1):
                position = played(chooser, many, turns)
                text = position_text(position)
                self.assertEqual(len(text), many + 1 + max(1, turns))
                self.assert_same(read_position(many, text), position)

    def test_by_name(self):
        self.assert_same(position_text(position=((0,), (None, 0))), ".B B")


class TestReadPosition(Checks, unittest.TestCase):
    def check(self, many, text, whole, begun_ones):
        """read_position does what the document says of the text."""
        wrong = [place for place in range(len(text)) if text[:place + 1] not in begun_ones]
        if wrong:
            self.assert_raises(BadText(wrong[0]), read_position, many, text)
        elif text not in whole:
            self.assert_raises(BadText(len(text)), read_position, many, text)
        elif any(text[:many].count(hand) != text[many:].count(hand) for hand in "AB"):
            self.assert_raises(BadPosition("number"), read_position, many, text)
        else:
            self.assert_same(position_text(read_position(many, text)), text)

    def test_all_short_texts(self):
        for many, longest in ((1, 5), (2, 6)):
            whole = set(all_texts(many))
            begun_ones = beginnings(whole)
            for length in range(longest + 1):
                for signs in product("AB. -", repeat=length):
                    self.check(many, "".join(signs), whole, begun_ones)

    def test_texts_with_one_sign_changed(self):
        for many in (1, 2, 3):
            whole = set(all_texts(many))
            begun_ones = beginnings(whole)
            for text in sorted(whole):
                for place in range(len(text) + 1):
                    self.check(many, text[:place], whole, begun_ones)
                    self.check(many, text[:place] + text[place + 1:], whole, begun_ones)
                    for sign in SIGNS if many < 3 else "AB. -x":
                        self.check(many, text[:place] + sign + text[place:], whole, begun_ones)
                        self.check(many, text[:place] + sign + text[place + 1:], whole, begun_ones)

    def test_texts_for_another_number_of_cells(self):
        for many in (1, 2, 3):
            whole = set(all_texts(many))
            begun_ones = beginnings(whole)
            for other in (1, 2, 3, 4):
                for text in all_texts(other):
                    self.check(many, text, whole, begun_ones)

    def test_places_by_hand(self):
        for many, text, place in (
            (1, "", 0), (1, "x", 0), (1, "-", 0), (1, ".", 1), (1, "..", 1), (1, ". ", 2), (1, ". .", 2),
            (1, ". --", 3), (1, ". -A", 3), (1, "A AA", 3), (1, "A A-", 3), (1, "A A ", 3), (1, "A A\n", 3),
            (3, "ab.", 0), (3, "A.B  A", 4), (3, "A.B AB.", 6), (3, "A.B ABAB", 7), (3, "\n", 0), (3, "A.B\n", 3),
            (10, "." * 10, 10), (10, "." * 11, 10), (10, "." * 10 + " ", 11), (10, "A" * 10 + " " + "A" * 11, 21),
        ):
            with self.subTest(text=text):
                self.assert_raises(BadText(place), read_position, many, text)

    def test_the_first_wrong_sign_comes_ahead_of_the_length_and_of_the_number(self):
        self.assert_raises(BadText(1), read_position, 5, "A-")
        self.assert_raises(BadText(5), read_position, 2, "A. BBB")
        self.assert_raises(BadText(4), read_position, 2, "A. -x")

    def test_number(self):
        for many, text in (
            (1, "A -"), (1, "B -"), (1, ". A"), (1, ". B"), (1, "A B"), (1, "B A"), (2, "A. AA"), (2, "AA A"),
            (2, "AB AA"), (2, "AB BB"), (2, "AA AB"), (2, ".B AB"), (3, "AB. A"), (3, "AB. ABA"), (3, "AB. B"),
        ):
            with self.subTest(text=text):
                self.assert_raises(BadPosition("number"), read_position, many, text)

    def test_as_many_turns_as_cells(self):
        for many in range(1, 11):
            text = "A" * many + " " + "A" * many
            self.assert_same(read_position(many, text), ((1,) * many, (1,) * many))
            self.assert_raises(BadText(2 * many + 1), read_position, many, text + "A")

    def test_any_values(self):
        def check(value):
            if isinstance(value, str):
                place = {"A": 1, "A\nB": 1}.get(value, 0)
                self.assert_raises(BadText(place), read_position, 2, value)
            else:
                self.assert_raises(BadText(0), read_position, 2, value)
        self.with_any_values(check)

    def test_texts_in_other_things_are_no_texts(self):
        for value in (["A A"], ("A A",), {"A A": 1}, ("A", " ", "A"), ["A", " ", "A"], ((1,), (1,))):
            self.assert_raises(BadText(0), read_position, 1, value)

    def test_long_texts(self):
        self.assert_raises(BadText(10), read_position, 10, "." * 20000)
        self.assert_raises(BadText(21), read_position, 10, "A" * 10 + " " + "A" * 19000)

    def test_by_names(self):
        self.assert_same(read_position(many=2, value=".A A"), ((1,), (None, 1)))
        self.assert_same(read_position(value=".A A", many=2), ((1,), (None, 1)))
        self.assert_raises(BadText(0), read_position, value=7, many=2)


if __name__ == "__main__":
    unittest.main()
