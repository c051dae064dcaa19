import random
import unittest

import drawn
import reference
from checks import Checks, any_values
from drawnturns.errors import BadDraws, BadLog, BadScore, BadText, TooManyEdits, TurnError, Unfit
from drawnturns.gamelogs import game_behind, log_text, read_log
from drawnturns.games import Game
from drawnturns.scoretexts import score_text
from drawn import COIN
from gaming import edit_by, some_edit, state

CELLS = [("cell", cell) for cell in range(10)]
FAIR = ("coin", 1, 1)
WISH = ("sum", CELLS[0], CELLS[0], CELLS[1])
SIGNS = "drawn ABput0123score c-(),\n"


def some_log(chooser, many, number):
    """A log of so many edits for many cells, one behind another or not."""
    scores = reference.drawn_scores(chooser.random(), many, 2, 3)
    edits = [("drawn", 0), ("drawn", 1)] + [("put", cell) for cell in range(many)]
    edits += [("rescore", score) for score in scores]
    return tuple(chooser.choice(edits) for _ in range(number))


def line_of(edit):
    """The text of an edit."""
    word, told = edit
    return {"drawn": lambda: "drawn " + "BA"[told], "put": lambda: f"put {told}",
            "rescore": lambda: "score " + score_text(told)}[word]()


def edit_of(many, line):
    """The edit whose text a line is, or None."""
    lines = {f"put {cell}": ("put", cell) for cell in range(many)}
    lines.update({"drawn A": ("drawn", 1), "drawn B": ("drawn", 0)})
    if line.startswith("score ") and reference.wrong_place(line[6:]) is None:
        score = reference.score_of(line[6:])
        return None if reference.score_error(many, score) else ("rescore", score)
    return lines.get(line)


def log_or_place(many, text):
    """The log that the text tells, or the number of its first wrong line."""
    lines = text.split("\n")
    if not lines[-1]:
        lines.pop()
    edits = [edit_of(many, line) for line in lines]
    wrong = [place for place, edit in enumerate(edits) if edit is None or place > 99]
    return wrong[0] if wrong else tuple(edits)


class TestLogText(Checks, unittest.TestCase):
    def test_lines(self):
        chooser = random.Random(461)
        for many in (1, 2, 5, 10):
            for number in (0, 1, 2, 7, 100):
                log = some_log(chooser, many, number)
                self.assert_same(log_text(log), "".join(line_of(edit) + "\n" for edit in log))

    def test_by_hand(self):
        self.assert_same(log_text(()), "")
        self.assert_same(log_text((("put", 9), ("put", 0))), "put 9\nput 0\n")
        self.assert_same(log_text((("drawn", 0), ("drawn", 0), ("drawn", 1))), "drawn B\ndrawn B\ndrawn A\n")
        self.assert_same(log_text((("rescore", ("number", -10 ** 6)), ("rescore", ("hex", 2, 5)))),
                         "score -1000000\nscore hex 2 5\n")
        self.assert_same(log_text((("rescore", ("if", WISH, ("y", 4), CELLS[9])),)),
                         "score if(sum(c0, c0, c1), y 4, c9)\n")

    def test_of_games(self):
        game = Game(3, FAIR, WISH)
        self.assert_same(log_text(game.edits), "")
        for edit in (("drawn", 1), ("rescore", CELLS[2]), ("put", 2), ("drawn", 0)):
            edit_by(game, edit)
        self.assert_same(log_text(game.edits), "drawn A\nscore c2\nput 2\ndrawn B\n")
        game.undo()
        self.assert_same(log_text(game.edits), "drawn A\nscore c2\nput 2\n")

    def test_by_names(self):
        self.assert_same(log_text(log=(("put", 1),)), "put 1\n")


class TestReadLog(Checks, unittest.TestCase):
    def check(self, many, text):
        wanted = log_or_place(many, text)
        if type(wanted) is tuple:
            self.assert_same(read_log(many, text), wanted)
        else:
            self.assert_raises(BadText(wanted), read_log, many, text)
        return wanted

    def test_texts_of_logs(self):
        chooser = random.Random(471)
        texts = {}
        for many in (1, 2, 5, 10):
            for number in (0, 1, 2, 3, 20, 99, 100):
                for _ in range(4):
                    log = some_log(chooser, many, number)
                    self.assert_same(read_log(many, log_text(log)), log)
                    self.assert_same(read_log(many, log_text(log)[:-1]), log)
                    self.assertEqual(texts.setdefault(log_text(log), log), log)

    def test_lines_that_are_no_edits(self):
        for line in (
            "", " ", "drawn", "drawn ", "drawn C", "drawn a", "drawn AB", "drawn A ", " drawn A", "drawn  A", "Drawn A",
            "drawn 1", "drawn -", "put", "put ", "put 3", "put 10", "put 00", "put 01", "put -1", "put +1", "put 1 ",
            "put  1", "put c1", "put A", "put 1.", "put 12345678", "put " + "1" * 5000, "score", "score ", "score c3",
            "score  c0", "score c0 ", "score c00", "score sum(c0,c1)", "score sum()", "score y 3", "score hex 2 2",
            "score -0", "score 1000001", "score if(c0, c1)", "score times(1000000, sum(1000000, c0))", "rescore c0",
            "rescore", "undo", "play", "best", "A", "B", "0", "c0", "drawn\tA", "drawn A\r",
        ):
            self.assertIsNone(edit_of(3, line))
            if line:
                self.assert_raises(BadText(0), read_log, 3, line)
            self.assert_raises(BadText(0), read_log, 3, line + "\n")
            self.assert_raises(BadText(0), read_log, 3, line + "\nput 0\n")
            self.assert_raises(BadText(1), read_log, 3, "put 0\n" + line + "\nput 0\n" + line)
            self.assert_raises(BadText(2), read_log, 3, "put 0\ndrawn A\n" + line + "\n")

    def test_line_feeds(self):
        for text, wanted in (
            ("", ()), ("\n", 0), ("\n\n", 0), ("put 0", (("put", 0),)), ("put 0\n", (("put", 0),)), ("put 0\n\n", 1),
            ("\nput 0", 0), ("put 0\n\nput 1", 1), ("put 0\nput 1\n\n\n", 2), ("put 0\n ", 1), ("put 0\n \n", 1),
        ):
            self.assertEqual(self.check(2, text), wanted)

    def test_more_than_a_hundred(self):
        for many in (2, 10):
            right = "put 1\n" * 100
            self.assertEqual(len(self.check(many, right)), 100)
            self.assertEqual(len(self.check(many, right[:-1])), 100)
            for more in ("put 1\n", "put 1", "\n", "drawn C", "put 1\nput 1\n", "score c0\n"):
                self.assertEqual(self.check(many, right + more), 100)
            self.assertEqual(self.check(many, right + right), 100)
            self.assertEqual(self.check(many, "put 1\n" * 99 + "x\n" + right), 99)
            self.assertEqual(self.check(many, right[:-1] + "x\n" + right), 99)

    def test_cells_and_scores_of_many(self):
        for many in range(1, 11):
            for cell in range(10):
                told = (("put", cell), ("rescore", CELLS[cell]))
                wanted = told if cell < many else 0
                self.assertEqual(self.check(many, f"put {cell}\nscore c{cell}\n"), wanted)
                if cell >= many:
                    self.assert_raises(BadText(1), read_log, many, f"put 0\nscore c{cell}\n")

    def test_signs_changed_left_out_put_in(self):
        chooser = random.Random(472)
        wrong = 0
        for many in (2, 3):
            for _ in range(150):
                signs = list(log_text(some_log(chooser, many, chooser.randrange(1, 5))))
                place = chooser.randrange(len(signs))
                signs[place:place + chooser.randrange(2)] = chooser.choice(["", chooser.choice(SIGNS)])
                wrong += type(self.check(many, "".join(signs))) is int
        self.assertGreater(wrong, 100)

    def test_any_values(self):
        for many in (1, 2, 10):
            def check(value):
                if type(value) is str:
                    self.check(many, value)
                else:
                    self.assert_raises(BadText(0), read_log, many, value)

            self.with_any_values(check)
        self.assert_raises(BadText(0), read_log, 2, (("put", 0),))
        self.assert_raises(BadText(0), read_log, 2, Game(2, FAIR, WISH))

    def test_long_logs(self):
        boards = ("sum",) + tuple(("sum",) + (("hex", 2, 5), ("y", 4)) * 5 for _ in range(10))
        log = (("rescore", boards),) * 100
        self.assert_same(read_log(10, log_text(log)), log)
        self.assert_raises(BadText(100), read_log, 10, log_text(log) * 2)

    def test_by_names(self):
        self.assert_same(read_log(value="put 1\n", many=2), (("put", 1),))


class TestGameBehind(Checks, unittest.TestCase):
    def place_of(self, many, draws, score, log):
        """The first item that cannot be done, or None; and the game behind all that are done."""
        game = Game(many, draws, score)
        for place, edit in enumerate(log):
            try:
                edit_by(game, edit)
            except TurnError:
                return place, game
        return None, game

    def test_edits_one_behind_another(self):
        chooser = random.Random(481)
        wrong = right = 0
        for many in (1, 2, 3, 5):
            scores = reference.drawn_scores(482, many, 2, 5)
            for draws in drawn.draws_of_all_kinds(chooser, many, 2):
                log, game = [], Game(many, draws, scores[0])
                for _ in range(12):
                    edit = some_edit(chooser, game, scores)
                    place, behind = self.place_of(many, draws, scores[0], log + [edit])
                    if place is None:
                        log.append(edit)
                        right += 1
                        told = game_behind(many, draws, scores[0], tuple(log))
                        self.assert_same(state(told), state(behind))
                        self.assertTrue(told == behind)
                        edit_by(game, edit)
                    else:
                        wrong += 1
                        self.assertEqual(place, len(log))
                        self.assert_raises(BadLog(place), game_behind, many, draws, scores[0], (*log, edit))
                        self.assert_raises(BadLog(place), game_behind, many, draws, scores[0], (*log, edit, *log))
                self.assert_same(state(game_behind(many, draws, scores[0], game.edits)), state(game))
        self.assertGreater(min(wrong, right), 100)

    def test_a_new_game_with_its_undo(self):
        log = (("drawn", 1), ("put", 1), ("rescore", CELLS[0]))
        one, other = game_behind(2, FAIR, WISH, log), game_behind(2, FAIR, WISH, log)
        self.assertIs(type(one), Game)
        self.assert_same([one.undo(), one.undo(), one.hand, other.version, other.score], [2, 1, 1, 3, CELLS[0]])
        self.assert_same(state(game_behind(2, FAIR, WISH, ())), state(Game(2, FAIR, WISH)))

    def test_what_is_no_edit(self):
        for item in (None, "drawn", ("drawn",), ("drawn", 1, 1), ["drawn", 1], ("Drawn", 1), ("undo", None), ("undo",),
                     ("score", CELLS[0]), ("twin", 0), ("mean", 0), (), (1, "drawn"), (("drawn", 1),), ({}, 1),
                     (["drawn"], 1), (None, 1), ("drawn A", 1), ("", 0)):
            self.assert_raises(BadLog(0), game_behind, 2, FAIR, WISH, (item,))
            self.assert_raises(BadLog(1), game_behind, 2, FAIR, WISH, (("drawn", 1), item, None))

    def test_edits_that_cannot_be_done(self):
        for log, place in (
            ((("put", 0),), 0), ((("drawn", 1), ("drawn", 1)), 1), ((("drawn", 2),), 0), ((("drawn", True),), 0),
            ((("drawn", 1), ("put", 2)), 1), ((("drawn", 1), ("put", True)), 1), ((("rescore", ("cell", 2)),), 0),
            ((("rescore", CELLS[1]), ("rescore", None)), 1),
            ((("drawn", 1), ("put", 0), ("drawn", 0), ("put", 0)), 3),
            ((("drawn", 1), ("put", 0), ("drawn", 0), ("put", 1), ("drawn", 0)), 4),
        ):
            self.assert_raises(BadLog(place), game_behind, 2, FAIR, WISH, log)
            self.assert_raises(BadLog(place), game_behind, 2, FAIR, WISH, log + (("rescore", WISH), 7))
        self.assert_raises(BadLog(0), game_behind, 2, ("row", (1, 0)), WISH, (("drawn", 0),))

    def test_more_than_a_hundred(self):
        log = (("rescore", CELLS[1]),) * 100
        self.assert_same(game_behind(2, FAIR, WISH, log).version, 100)
        for more in (("rescore", CELLS[1]), ("drawn", 1), ("put", 0), None):
            self.assert_raises(BadLog(100), game_behind, 2, FAIR, WISH, log + (more,))
        self.assert_raises(BadLog(100), game_behind, 2, FAIR, WISH, log * 3)

    def test_what_game_raises_comes_first(self):
        for value in ((), [], None, (1, 2)):
            self.assert_raises(Unfit(), game_behind, 0, FAIR, WISH, value)
            self.assert_raises(Unfit(), game_behind, None, None, None, value)
            self.assert_raises(BadDraws("numbers"), game_behind, 2, ("coin", 0, 0), None, value)
            self.assert_raises(BadScore(("cell", ())), game_behind, 2, FAIR, ("cell", 2), value)

    def test_any_values(self):
        def check(value):
            if value == ():
                self.assert_same(state(game_behind(2, COIN, WISH, value)), state(Game(2, COIN, WISH)))
            else:
                self.assert_raises(BadLog(0), game_behind, 2, COIN, WISH, value)
            self.assert_raises(BadLog(0), game_behind, 2, COIN, WISH, (value,))
            self.assert_raises(BadLog(1), game_behind, 2, COIN, WISH, (("drawn", 1), value))
            if value not in (0, 1) or type(value) is not int:
                self.assert_raises(BadLog(1), game_behind, 2, COIN, WISH, (("drawn", 1), ("put", value)))
                self.assert_raises(BadLog(0), game_behind, 2, COIN, WISH, (("drawn", value),))
            self.assert_raises(BadLog(0), game_behind, 2, COIN, WISH, ((value, 1),))
            self.assert_raises(BadLog(0), game_behind, 2, COIN, WISH, (("rescore", value),))

        self.with_any_values(check)
        for value in any_values():
            for call in (lambda: game_behind(value, COIN, WISH, ()), lambda: game_behind(2, value, WISH, ())):
                try:
                    call()
                except TurnError as error:
                    self.assertIn(type(error), (Unfit, BadDraws, BadScore))

    def test_by_names(self):
        game = game_behind(value=(("drawn", 1),), score=WISH, draws=FAIR, many=2)
        self.assert_same(game.hand, 1)
        self.assert_raises(BadLog(0), game_behind, value=None, score=WISH, draws=FAIR, many=2)
        self.assert_raises(TooManyEdits(), game_behind(2, FAIR, WISH, (("rescore", WISH),) * 100).drawn, hand=1)


if __name__ == "__main__":
    unittest.main()
