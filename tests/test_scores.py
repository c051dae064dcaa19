import random
import unittest

import reference
from checks import Checks, any_values
from drawnturns.scores import score_error

GREAT = 10 ** 399
NO_INTEGERS = (None, True, False, "", "0", "1", (), (0,), [], [0], {}, {0: 0})
MOST = ("times", ("number", 10 ** 6), ("number", -10 ** 6))
MORE = ("sum", MOST, ("cell", 0))
ENOUGH = {
    "sum": (("cell", 0),),
    "least": (("cell", 0),),
    "greatest": (("cell", 0),),
    "times": (("cell", 0), ("cell", 0)),
    "not": (("cell", 0),),
    "if": (("cell", 0), ("cell", 0), ("cell", 0)),
}


def in_nots(number, score):
    """The score in so many nots."""
    for _ in range(number):
        score = ("not", score)
    return score


def replaced(score, way, part):
    """The score with another part at the way."""
    if way == ():
        return part
    at = way[0] + 1
    return score[:at] + (replaced(score[at], way[1:], part),) + score[at + 1:]


class TestOwnWords(Checks, unittest.TestCase):
    def check(self, many, value, wanted):
        with self.subTest(many=many, value=repr(value)[:80]):
            self.assert_same(score_error(many, value), wanted)

    def test_all_ten_words(self):
        for score in (
            ("number", 0), ("cell", 2), ("sum", ("cell", 1)), ("least", ("cell", 1)), ("greatest", ("cell", 1)),
            ("times", ("cell", 1), ("cell", 1)), ("not", ("cell", 1)), ("if", ("cell", 0), ("cell", 1), ("cell", 2)),
            ("y", 2), ("hex", 3, 1),
        ):
            self.check(3, score, None)

    def test_form(self):
        for value in (
            None, True, 0, -7, GREAT, "cell", "", "number", (), (None,), (0,), (True, 0), ((),), (("cell", 0),),
            ([], 1),
            ["cell", 0], [], {}, {"cell": 0}, ({}, 1), (None, "cell"), (1, "cell", 0), ((("cell", 0),),),
        ):
            self.check(3, value, ("form", ()))
            self.check(3, ("not", value), ("form", (0,)))
            self.check(3, ("sum", ("cell", 0), value, None), ("form", (1,)))

    def test_word(self):
        for word in ("", "max", "min", "Cell", "cells", "cell ", " cell", "hex 1 1", "sum(", "or", "\n", "x" * 2000):
            for value in ((word,), (word, 0), (word, ("cell", 0)), (word, None, None, None)):
                self.check(3, value, ("word", ()))
                self.check(3, ("least", ("cell", 1), value), ("word", (1,)))

    def test_many(self):
        for word, items in (("number", (0,)), ("cell", (0,)), ("y", (1,)), ("hex", (1, 1))):
            self.check(3, (word,) + items, None)
            for number in (0, 1, 2, 3, 4, 11):
                if number != len(items):
                    self.check(3, (word,) + (1,) * number, ("many", ()))
                    self.check(3, (word,) + (None,) * number, ("many", ()))
        for word, asked in (("times", 2), ("not", 1), ("if", 3)):
            for number in range(13):
                self.check(3, (word,) + (("cell", 0),) * number, None if number == asked else ("many", ()))
        for word in ("sum", "least", "greatest"):
            for number in range(13):
                self.check(3, (word,) + (("cell", 0),) * number, None if 1 <= number <= 10 else ("many", ()))

    def test_many_comes_ahead_of_the_parts(self):
        self.check(3, ("not", None, None), ("many", ()))
        self.check(3, ("if", None), ("many", ()))
        self.check(3, ("sum",) + (None,) * 11, ("many", ()))
        self.check(3, ("times", ("not",), ("not",)), ("many", (0,)))

    def test_number(self):
        for number in (0, 1, -1, 10 ** 6, -10 ** 6, 999999, -999999):
            self.check(3, ("number", number), None)
        for wrong in (10 ** 6 + 1, -10 ** 6 - 1, 10 ** 7, -10 ** 7, GREAT, -GREAT) + NO_INTEGERS:
            self.check(3, ("number", wrong), ("number", ()))

    def test_cell(self):
        for many in range(1, 11):
            for cell in range(many):
                self.check(many, ("cell", cell), None)
            for wrong in (many, many + 1, -1, -many, GREAT, -GREAT) + NO_INTEGERS:
                self.check(many, ("cell", wrong), ("cell", ()))

    def test_y(self):
        for many in range(1, 11):
            for side in range(1, 13):
                self.check(many, ("y", side), None if side * (side + 1) // 2 <= many else ("board", ()))
            for wrong in (0, -1, -2, -3, GREAT, -GREAT) + NO_INTEGERS:
                self.check(many, ("y", wrong), ("board", ()))

    def test_hex(self):
        for many in range(1, 11):
            for rows in range(1, 13):
                for columns in range(1, 13):
                    wanted = None if rows * columns <= many else ("board", ())
                    self.check(many, ("hex", rows, columns), wanted)
            for wrong in (0, -1, -2, GREAT, -GREAT) + NO_INTEGERS:
                self.check(many, ("hex", wrong, 1), ("board", ()))
                self.check(many, ("hex", 1, wrong), ("board", ()))
                self.check(many, ("hex", wrong, wrong), ("board", ()))

    def test_deep(self):
        self.check(1, in_nots(8, ("cell", 0)), None)
        for word, items in ENOUGH.items():
            self.check(1, in_nots(7, (word,) + items), None)
            self.check(1, in_nots(8, (word,) + items), ("deep", (0,) * 8))
            self.check(1, in_nots(9, (word,) + items), ("deep", (0,) * 8))
            self.check(1, in_nots(8, (word,) + (None,) * len(items)), ("deep", (0,) * 8))

    def test_what_comes_ahead_of_deep(self):
        for value, word in (
            (None, "form"), (("max", 0), "word"), (("not",), "many"), (("times", ("cell", 0)), "many"),
            (("number", True), "number"), (("cell", 1), "cell"), (("y", 2), "board"), (("hex", 1, 2), "board"),
        ):
            self.check(1, in_nots(8, value), (word, (0,) * 8))
        for value in (("number", 5), ("cell", 0), ("y", 1), ("hex", 1, 1)):
            self.check(1, in_nots(8, value), None)

    def test_deep_at_other_ways(self):
        score = ("cell", 0)
        for _ in range(8):
            score = ("times", ("cell", 0), score)
        self.check(1, score, None)
        self.check(1, replaced(score, (1,) * 8, ("sum", ("cell", 0))), ("deep", (1,) * 8))
        self.check(1, replaced(score, (1,) * 7 + (0,), ("sum", ("cell", 0))), ("deep", (1,) * 7 + (0,)))
        self.check(1, replaced(score, (1,) * 6 + (0,), ("sum", ("cell", 0))), None)


class TestOrderOfParts(Checks, unittest.TestCase):
    def test_the_first_wrong_part_by_its_way(self):
        one, other, third = ("max",), ("cell", 7), None
        self.assert_same(score_error(3, ("sum", one, other, third)), ("word", (0,)))
        self.assert_same(score_error(3, ("sum", other, one, third)), ("cell", (0,)))
        self.assert_same(score_error(3, ("sum", ("cell", 1), third, one)), ("form", (1,)))
        self.assert_same(score_error(3, ("sum", ("not", other), third)), ("cell", (0, 0)))
        self.assert_same(score_error(3, ("sum", ("not", ("cell", 0)), third)), ("form", (1,)))
        value = ("if", ("times", ("cell", 0), ("not", third)), one, other)
        self.assert_same(score_error(3, value), ("form", (0, 1, 0)))
        self.assert_same(score_error(3, ("times", ("if", one, other), third)), ("many", (0,)))

    def test_each_place_of_a_great_score(self):
        score = ("if", ("sum",) + tuple(("cell", cell) for cell in range(10)),
                 ("greatest", ("times", ("y", 4), ("hex", 2, 5)), ("not", ("number", 3))),
                 ("least", ("cell", 9), ("if", ("cell", 8), ("number", -4), ("sum", ("cell", 0)))))
        self.assertIsNone(score_error(10, score))
        ways = sorted(reference.parts_of(score))
        for way in ways:
            self.assert_same(score_error(10, replaced(score, way, None)), ("form", way))
            self.assert_same(score_error(10, replaced(score, way, ("y", 5))), ("board", way))
            for later in ways:
                if later > way and later[:len(way)] != way:
                    value = replaced(replaced(score, way, ("cell", 10)), later, ("max",))
                    self.assert_same(score_error(10, value), ("cell", way))


class TestParts(Checks, unittest.TestCase):
    def test_as_many_as_may_be_and_one_more(self):
        for number in (1, 2, 11, 12, 111, 199, 200):
            self.assertEqual(len(reference.parts_of(reference.with_parts(number))), number)
            self.assertIsNone(score_error(1, reference.with_parts(number)))
        for number in (201, 202, 250, 400):
            value = reference.with_parts(number)
            self.assert_same(score_error(1, value), ("parts", sorted(reference.parts_of(value))[200]))

    def test_parts_come_ahead_of_all_other_words(self):
        value = reference.with_parts(201)
        last = sorted(reference.parts_of(value))[200]
        for part in (None, [], ("max",), ("not",), ("number", "1"), ("cell", 5), ("y", 9), ("hex", 0, 0), "cell"):
            self.assert_same(score_error(1, replaced(value, last, part)), ("parts", last))

    def test_what_is_wrong_ahead_of_too_many_parts(self):
        value = reference.with_parts(230)
        ways = sorted(reference.parts_of(value))
        self.assert_same(score_error(1, replaced(value, ways[199], ("cell", 1))), ("cell", ways[199]))
        self.assert_same(score_error(1, replaced(value, ways[205], ("cell", 1))), ("parts", ways[200]))

    def test_the_last_one_that_may_be(self):
        value = reference.with_parts(200)
        last = sorted(reference.parts_of(value))[199]
        self.assertIsNone(score_error(1, replaced(value, last, ("number", 1))))
        self.assert_same(score_error(1, replaced(value, last, None)), ("form", last))
        self.assert_same(score_error(1, replaced(value, last, ("not", ("cell", 0)))), ("parts", last + (0,)))
        self.assert_same(score_error(1, replaced(value, last, ("not", None))), ("parts", last + (0,)))

    def test_parts_come_ahead_of_great(self):
        value = ("sum", MORE, reference.with_parts(194))
        self.assertEqual(len(reference.parts_of(value)), 200)
        self.assert_same(score_error(1, value), ("great", ()))
        value = ("sum", MORE, reference.with_parts(195))
        self.assert_same(score_error(1, value), ("parts", sorted(reference.parts_of(value))[200]))


class TestSizes(Checks, unittest.TestCase):
    def test_just_great_enough(self):
        thousand = ("number", 1000)
        for score in (
            MOST, ("times", MOST, ("number", 1)), ("times", MOST, ("number", -1)), ("times", MOST, ("cell", 0)),
            ("times", MOST, ("y", 2)), ("times", ("hex", 1, 3), MOST), ("times", MOST, ("not", ("number", 5))),
            ("times", MOST, ("number", 0)), ("times", MORE, ("number", 0)),
            ("times", ("sum", MOST, MOST), ("sum", ("number", 0))),
            ("sum", MOST), ("sum", MOST, ("number", 0)), ("sum", MOST, ("times", MORE, ("number", 0))),
            ("least", MOST, MOST), ("greatest", MOST, MOST, thousand), ("least", ("number", 0), MOST),
            ("greatest", ("number", 5), MOST), ("times", ("times", thousand, thousand), ("times", thousand, thousand)),
            ("if", MORE, MOST, MOST), ("if", MORE, ("cell", 0), ("cell", 1)), ("not", MORE),
            ("not", ("sum", MORE, MORE)),
            ("times", ("not", MORE), MOST), ("if", ("times", MORE, MORE), ("number", 1), MOST),
            ("sum", ("number", -10 ** 6), ("number", 10 ** 6)),
            ("sum", ("not", MORE), ("times", ("number", 999999), ("number", 10 ** 6))),
        ):
            with self.subTest(score=score):
                self.assertIsNone(score_error(3, score))

    def test_one_too_great(self):
        for value in (
            MORE, ("sum", MOST, ("number", 1)), ("sum", MOST, ("number", -1)), ("sum", ("cell", 0), MOST),
            ("sum", MOST, ("y", 1)), ("sum", MOST, ("hex", 1, 1)), ("sum", MOST, ("not", MOST)), ("sum", MOST, MOST),
            ("times", MOST, ("number", 2)), ("times", MOST, ("number", -2)), ("times", ("number", 2), MOST),
            ("times", MOST, MOST), ("times", MORE, ("number", -1)), ("times", MORE, ("cell", 0)),
            ("least", MOST, MORE), ("least", MORE, ("number", 0)), ("greatest", MORE, MOST),
            ("greatest", ("cell", 0), MORE),
            ("least", ("cell", 0), ("cell", 1), MORE, ("cell", 2)), ("if", ("cell", 0), MORE, MOST),
            ("if", ("cell", 0), MOST, MORE), ("if", ("number", 0), MORE, ("cell", 1)),
            ("if", ("number", 1), ("cell", 1), MORE),
            ("sum", ("times", MORE, ("number", 0)), MORE), ("times", ("least", ("number", 2), ("number", 1)), MOST),
        ):
            with self.subTest(value=value):
                self.assert_same(score_error(3, value), ("great", ()))

    def test_a_wrong_part_comes_ahead_of_great(self):
        self.assert_same(score_error(3, ("sum", MOST, MOST, ("cell", 3))), ("cell", (2,)))
        self.assert_same(score_error(3, ("sum", MORE, None)), ("form", (1,)))

    def test_sizes_far_beyond(self):
        score = ("number", 10 ** 6)
        for _ in range(6):
            score = ("times", score, score)
        self.assertEqual(len(reference.parts_of(score)), 127)
        self.assert_same(score_error(1, score), ("great", ()))
        self.assertIsNone(score_error(1, ("not", score)))
        self.assertIsNone(score_error(1, ("if", score, ("cell", 0), ("number", 2))))
        self.assertIsNone(score_error(1, ("times", score, ("number", 0))))


class TestScoreError(Checks, unittest.TestCase):
    def test_drawn_scores_and_such_with_wrong_parts(self):
        chooser = random.Random(11)
        wrong = any_values() + [
            ("max", ("cell", 0)), ("cell", 3), ("cell", 0, 0), ("y", 3), ("hex", 2, 2), ("number", 10 ** 6 + 1),
            ("sum",), ("not", ("cell", 0), ("cell", 1)), MOST, MORE, in_nots(5, ("cell", 0)), ("cell", 0), ("y", 0),
        ]
        for many in (1, 2, 3, 6, 10):
            for deep in (1, 2, 3, 5, 8):
                for score in reference.drawn_scores(17 * many + deep, many, deep, 12):
                    self.assertIsNone(score_error(many, score))
                    if many < 10:
                        self.assertIsNone(score_error(many + 1, score))
                    ways = sorted(reference.parts_of(score))
                    for _ in range(8):
                        value = replaced(score, chooser.choice(ways), chooser.choice(wrong))
                        with self.subTest(many=many, value=repr(value)[:200]):
                            self.assert_same(score_error(many, value), reference.score_error(many, value))

    def test_any_values(self):
        def check(value):
            for whole in (
                value, (value,), ("number", value), ("cell", value), ("y", value), ("hex", value, 1), ("hex", 1, value),
                ("not", value), ("sum", ("cell", 0), value), ("if", value, value, value), ("times", value, ("cell", 0)),
                (value, ("cell", 0)), ("sum", [value]), ("not", (value, value)),
            ):
                self.assert_same(score_error(3, whole), reference.score_error(3, whole))
        self.with_any_values(check)

    def test_by_names_and_again(self):
        self.assertIsNone(score_error(value=("cell", 1), many=2))
        self.assert_same(score_error(value=("cell", 1), many=1), ("cell", ()))
        value = ["sum", [("cell", 0)], {"cell": [0]}]
        for whole in (value, ("sum", value), ("number", value)):
            self.assert_same(score_error(2, whole), score_error(2, whole))
        self.assert_same(value, ["sum", [("cell", 0)], {"cell": [0]}])


if __name__ == "__main__":
    unittest.main()
