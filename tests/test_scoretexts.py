import random
import unittest

import reference
from checks import Checks
from drawnturns.errors import BadScore, BadText
from drawnturns.scoretexts import read_score, score_text

SIGNS = "".join([chr(number) for number in range(32, 127)]) + "\n"
TEXTS = (
    (("number", 0), "0"),
    (("number", 7), "7"),
    (("number", -7), "-7"),
    (("number", 10 ** 6), "1000000"),
    (("number", -10 ** 6), "-1000000"),
    (("cell", 0), "c0"),
    (("cell", 9), "c9"),
    (("y", 1), "y 1"),
    (("y", 4), "y 4"),
    (("hex", 1, 10), "hex 1 10"),
    (("hex", 3, 2), "hex 3 2"),
    (("sum", ("cell", 0)), "sum(c0)"),
    (("sum", ("cell", 0), ("number", 2), ("y", 3)), "sum(c0, 2, y 3)"),
    (("least", ("cell", 1), ("number", -1)), "least(c1, -1)"),
    (("greatest", ("hex", 2, 2), ("cell", 3)), "greatest(hex 2 2, c3)"),
    (("times", ("number", 0), ("cell", 0)), "times(0, c0)"),
    (("not", ("y", 2)), "not(y 2)"),
    (("if", ("cell", 0), ("not", ("cell", 1)), ("sum", ("cell", 2))), "if(c0, not(c1), sum(c2))"),
)


class TestScoreText(Checks, unittest.TestCase):
    def test_each_word(self):
        for score, text in TEXTS:
            self.assert_same(score_text(score), text)
            self.assert_same(score_text(score=score), text)
            self.assert_same(read_score(10, text), score)

    def test_drawn_scores_are_read_again(self):
        seen = {}
        for many in (1, 3, 6, 10):
            for deep in (1, 2, 4, 8):
                for score in reference.drawn_scores(51 * many + deep, many, deep, 30):
                    text = score_text(score)
                    self.assert_same(read_score(many, text), score)
                    self.assertEqual(seen.setdefault(text, score), score)

    def test_the_greatest_ones(self):
        for score in (reference.with_parts(200), ("times", ("number", 10 ** 6), ("number", -10 ** 6))):
            self.assert_same(read_score(1, score_text(score)), score)


class TestReadScore(Checks, unittest.TestCase):
    def check(self, many, text):
        """read_score does what the document says of the text."""
        with self.subTest(many=many, text=text[:100]):
            place = reference.wrong_place(text)
            if place is not None:
                self.assert_raises(BadText(place), read_score, many, text)
                return
            score = reference.score_of(text)
            error = reference.score_error(many, score)
            if error is not None:
                self.assert_raises(BadScore(error), read_score, many, text)
            else:
                self.assert_same(read_score(many, text), score)
                self.assert_same(score_text(score), text)

    def test_short_texts(self):
        waiting = [""]
        for _ in range(4):
            tried = [text + sign for text in waiting for sign in "silnyhec(), -012"]
            for text in tried:
                self.check(3, text)
            waiting = [text for text in tried if reference.wrong_place(text) in (None, len(text))]

    def test_signs_left_out_put_in_exchanged_and_cut_off(self):
        whole = [text for _, text in TEXTS] + [
            "if(sum(c0, c10), least(-12, y 2), times(hex 2 3, not(0)))", "greatest(not(not(c1)), 1234567)",
        ]
        for text in whole:
            self.check(10, text)
            for place in range(len(text) + 1):
                self.check(10, text[:place])
                self.check(10, text[:place] + text[place + 1:])
                for sign in SIGNS:
                    self.check(10, text[:place] + sign + text[place:])
                    if place < len(text):
                        self.check(10, text[:place] + sign + text[place + 1:])

    def test_drawn_texts_with_wrong_signs(self):
        chooser = random.Random(61)
        for score in reference.drawn_scores(62, 10, 4, 60):
            text = score_text(score)
            for _ in range(12):
                place = chooser.randrange(len(text) + 1)
                sign = chooser.choice(SIGNS)
                self.check(10, text[:place] + sign + text[place + chooser.randrange(3):])

    def test_numerals(self):
        for text, score in (
            ("0", ("number", 0)), ("1", ("number", 1)), ("10", ("number", 10)), ("999999", ("number", 999999)),
            ("-1", ("number", -1)), ("-10", ("number", -10)), ("-999999", ("number", -999999)),
        ):
            self.assert_same(read_score(1, text), score)
        for text, place in (
            ("", 0), ("-", 1), ("-0", 1), ("-01", 1), ("00", 1), ("01", 1), ("0-", 1), ("--1", 1), ("+1", 0), ("1-", 1),
            ("1.", 1), ("1 ", 1), (" 1", 0), ("1\n", 1), ("\n", 0), ("12345678", 7), ("-12345678", 8), ("10000000", 7),
            ("1_0", 1), ("1e1", 1), ("0x1", 1), ("c", 1), ("c-1", 1), ("c 1", 1), ("c00", 2), ("c01", 2),
            ("c12345678", 8),
            ("C0", 0), ("cell", 1), ("c0 ", 2), ("c0,", 2), ("c0)", 2), ("c0, c1", 2),
        ):
            with self.subTest(text=text):
                self.assert_raises(BadText(place), read_score, 10, text)

    def test_y_and_hex(self):
        for text, place in (
            ("y", 1), ("y ", 2), ("y1", 1), ("y  1", 2), ("y -1", 2), ("y 01", 3), ("y 1 ", 3), ("y 1 1", 3),
            ("y 12345678", 9), ("Y 1", 0), ("h", 1), ("he", 2), ("hex", 3), ("hex ", 4), ("hex 1", 5), ("hex 1 ", 6),
            ("hex1 1", 3), ("hex  1", 4), ("hex 1  1", 6), ("hex 1, 1", 5), ("hex 1 1 1", 7), ("hex 01 1", 5),
            ("hex 1 01", 7), ("hex -1 1", 4), ("hex 12345678 1", 11), ("hex 1 12345678", 13), ("hey 1", 2), ("hec", 2),
        ):
            with self.subTest(text=text):
                self.assert_raises(BadText(place), read_score, 10, text)

    def test_brackets_and_commas(self):
        for text, place in (
            ("s", 1), ("su", 2), ("sum", 3), ("sum(", 4), ("sum()", 4), ("sum(,", 4), ("sum( c0)", 4), ("sum(c0", 6),
            ("sum(c0,", 7), ("sum(c0, ", 8), ("sum(c0, )", 8), ("sum(c0,  c1)", 8), ("sum(c0 , c1)", 6),
            ("sum(c0,c1)", 7),
            ("sum(c0))", 7), ("sum(c0) ", 7), ("sum(c0)\n", 7), ("sum(c0), c1", 7), ("sum (c0)", 3), ("sum[c0]", 3),
            ("(c0)", 0), ("()", 0), (")", 0), (",", 0), ("summ(c0)", 3), ("sun(c0)", 2), ("Sum(c0)", 0), ("max(c0)", 0),
            ("min(c0)", 0), ("least(", 6), ("less(c0)", 2), ("greatest()", 9), ("greater(c0)", 6), ("times(", 6),
            ("time(c0)", 4), ("not(", 4), ("nor(c0)", 2), ("if(", 3), ("is(c0)", 1), ("number(1)", 1), ("cell(1)", 1),
            ("not(sum(c0)", 11), ("not(sum(c0))c", 12), ("not(sum(c0,", 11), ("not(sum(c0) c1)", 11),
        ):
            with self.subTest(text=text):
                self.assert_raises(BadText(place), read_score, 10, text)

    def test_eight_brackets_and_the_ninth(self):
        for word in ("sum", "least", "greatest", "times", "not", "if"):
            opened = "not(" * 7 + word + "("
            rest = {"times": ", c0", "if": ", c0, c0"}.get(word, "") + ")" * 8
            for leaf in ("c0", "0", "-5", "y 1", "hex 1 1"):
                self.assert_same(score_text(read_score(1, opened + leaf + rest)), opened + leaf + rest)
            for ninth in ("sum(c0)", "least(c0)", "greatest(c0)", "times(c0, c0)", "not(c0)", "if(0, 0, 0)", "s", "i"):
                self.assert_raises(BadText(len(opened)), read_score, 1, opened + ninth + rest)
                more = opened + "c0, " + ninth + rest
                self.assert_raises(BadText(len(opened) + 4), read_score, 1, more)
        text = "sum(" * 7 + "c0" + ")" * 6 + ", not(not(c0)))"
        self.assert_same(score_text(read_score(1, text)), text)
        self.assert_raises(BadText(29), read_score, 1, "not(" * 7 + "nnot(c0)")

    def test_brackets_that_are_closed_do_not_count(self):
        text = "sum(" + ", ".join(["not(not(not(c0)))"] * 10) + ")"
        self.assert_same(score_text(read_score(1, text)), text)

    def test_bad_scores(self):
        for many, text, error in (
            (3, "c3", ("cell", ())), (1, "c1", ("cell", ())), (10, "c10", ("cell", ())), (3, "c9999999", ("cell", ())),
            (3, "1000001", ("number", ())), (3, "-1000001", ("number", ())), (3, "9999999", ("number", ())),
            (3, "-9999999", ("number", ())), (3, "y 0", ("board", ())), (3, "y 3", ("board", ())),
            (2, "y 2", ("board", ())),
            (3, "y 9999999", ("board", ())), (3, "hex 0 1", ("board", ())), (3, "hex 1 0", ("board", ())),
            (3, "hex 2 2", ("board", ())), (3, "hex 9999999 9999999", ("board", ())), (3, "times(c0)", ("many", ())),
            (3, "times(c0, c1, c2)", ("many", ())), (3, "not(c0, c1)", ("many", ())), (3, "if(c0)", ("many", ())),
            (3, "if(c0, c0, c0, c0)", ("many", ())), (3, "sum(c0, not(c1, c2))", ("many", (1,))),
            (3, "sum(" + ", ".join(["c0"] * 11) + ")", ("many", ())),
            (3, "least(" + ", ".join(["c3"] * 11) + ")", ("many", ())),
            (3, "greatest(c0, " + ", ".join(["0"] * 10) + ")", ("many", ())),
            (3, "sum(c0, if(c3, y 3), 9999999)", ("many", (1,))),
            (3, "sum(c0, times(c3, y 3), 9999999)", ("cell", (1, 0))), (3, "not(times(c0, y 3))", ("board", (0, 1))),
            (3, "sum(times(1000000, 1000000), 1)", ("great", ())),
            (3, "times(1000000, times(-1000000, 2))", ("great", ())),
        ):
            with self.subTest(text=text):
                self.assert_raises(BadScore(error), read_score, many, text)

    def test_too_many_parts(self):
        for number in (201, 202, 240):
            value = reference.with_parts(number)
            way = sorted(reference.parts_of(value))[200]
            self.assert_raises(BadScore(("parts", way)), read_score, 1, score_text(value))

    def test_bad_scores_tell_what_score_error_tells(self):
        for score in reference.drawn_scores(71, 10, 4, 60):
            for many in (1, 3, 5):
                error = reference.score_error(many, score)
                if error is None:
                    self.assert_same(read_score(many, score_text(score)), score)
                else:
                    self.assert_raises(BadScore(error), read_score, many, score_text(score))

    def test_a_wrong_text_of_what_is_no_score_is_a_wrong_text(self):
        self.assert_raises(BadText(2), read_score, 3, "c9 ")
        self.assert_raises(BadText(9), read_score, 3, "not(c0, c")
        self.assert_raises(BadText(8), read_score, 3, "sum(y 9)x")

    def test_thousands_of_signs(self):
        many_items = "sum(" + ", ".join(["c0"] * 4000) + ")"
        self.assert_raises(BadScore(("many", ())), read_score, 1, many_items)
        self.assert_raises(BadText(len(many_items) - 1), read_score, 1, many_items[:-1])
        self.assert_raises(BadText(len(many_items)), read_score, 1, many_items + "x")
        self.assert_raises(BadText(32), read_score, 1, "not(" * 5000)
        self.assert_raises(BadText(7), read_score, 1, "1" * 20000)
        self.assert_raises(BadText(0), read_score, 1, "(" * 20000)
        self.assert_raises(BadText(0), read_score, 1, " " * 20000)
        self.assert_raises(BadText(1), read_score, 1, "s" * 20000)
        rows = "sum(" + ", ".join(["sum(" + ", ".join(["c0"] * 10) + ")"] * 300) + ")"
        self.assert_raises(BadScore(("many", ())), read_score, 1, rows)

    def test_any_values(self):
        scores = {"0": ("number", 0), "1": ("number", 1)}
        places = {"-": 1, "cell": 1}

        def check(value):
            if isinstance(value, str) and value in scores:
                self.assert_same(read_score(3, value), scores[value])
            elif isinstance(value, str):
                self.assert_raises(BadText(places.get(value, 0)), read_score, 3, value)
            else:
                self.assert_raises(BadText(0), read_score, 3, value)
        self.with_any_values(check)

    def test_no_strings(self):
        for value in (("cell", 0), ["c0"], ("c0",), {"c0": "c0"}, 0, 5, True, ("number", 3)):
            self.assert_raises(BadText(0), read_score, 3, value)

    def test_by_names(self):
        self.assert_same(read_score(value="c1", many=2), ("cell", 1))
        self.assert_raises(BadScore(("cell", ())), read_score, value="c1", many=1)
        self.assert_raises(BadText(1), read_score, many=1, value="c")


if __name__ == "__main__":
    unittest.main()
