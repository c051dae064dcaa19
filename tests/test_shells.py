import random
import unittest

import drawn
import reference
from checks import Checks, any_values
from drawnturns.drawtexts import draws_text
from drawnturns.games import Game
from drawnturns.scoretexts import score_text
from drawnturns.shells import Shell
from shelling import Model

CELLS = [("cell", cell) for cell in range(10)]
MOST = "greatest(least(c0, c1), least(c0, c2), least(c1, c2))"
# Lines that ask, each of them answered by the same as long as nothing changes.
ASKING = ("position", "hand", "mean", "best", "end", "worth", "weighs 0", "weighs 1", "log", "numbers", "parting", "form",
          "stretches", "square", "length", "least")
# For each line what it needs, in the order in which it is told.
NEEDS = {
    "draws coin 1 1": ["cells"], "score c0": ["cells"], "draws": None, "score": None, "play": ["draws", "score"],
    "numbers": ["draws"], "parting": ["draws"], "form": ["score"], "stretches": ["score"], "square": ["score"],
    "length": ["draws", "score"], "least": ["draws", "score"], "rescore": ["score", "game"], "drawn A": ["game"],
    "drawn B": ["game"], "put 0": ["game"], "undo": ["game"], "position": ["game"], "hand": ["game"], "mean": ["game"],
    "best": ["game"], "end": ["game"], "worth": ["game"], "weighs 0": ["game"], "log": ["game"], "cells 0": [],
    "put 99999": ["game"], "weighs 99999": ["game"], "draws ": ["cells"], "score ": ["cells"],
}
WRONG = (
    "", " ", "cells", "cells ", "cells 03", "cells 3 ", "cells  3", " cells 3", "cells -1", "cells +3", "cells 3.0",
    "cells three", "cells 100000", "cells 99999999999", "cells 00", "Cells 3", "cells 3\n", "cells 3 3", "draws", "score",
    "draws\ncoin 1 1", "play ", " play", "Play", "play 1", "begin", "drawn", "drawn ", "drawn C", "drawn a", "drawn AB",
    "drawn A ", "drawn  A", "drawn 1", "put", "put ", "put 01", "put -1", "put A", "put c1", "put 100000", "put 1 ",
    "put  1", "rescore ", "rescore c0", "undo ", "undo 1", "position ", "position 1", "hand A", "mean ", "means", "best 1",
    "end ", "worth 0", "weighs", "weighs ", "weighs c0", "weighs 00", "weighs 100000", "weighs 0 ", "log ", "numbers ",
    "parting 1", "form ", "stretches ", "square 1", "length ", "least ", "what", "no game", "version", "twin", "help",
    "play\n", "\nplay", "cells\t3", "error Unfit", "PLAY",
)


def stage(words):
    """A shell that has just what the words tell, of cells, draws, score and game."""
    shell = Shell()
    for word, line in (("cells", "cells 3"), ("draws", "draws coin 1 1"), ("score", "score c0"), ("game", "play")):
        if word in words:
            shell.say(line)
    return shell


def dump(shell):
    """What a shell answers to all lines that ask."""
    return [shell.say(line) for line in ASKING]


def some_line(chooser, many, calm=False):
    """A line of some sort, right or wrong; if calm, seldom one by which a game comes to its end."""
    draws = drawn.some_draws(chooser, max(1, many), chooser.choice(drawn.KINDS))
    score = reference.drawn_scores(chooser.random(), max(1, many + chooser.randrange(2)), 2, 1)[0]
    kind = chooser.randrange(20)
    if calm and kind in (0, 5) and chooser.randrange(10):
        kind = 6
    if kind == 0:
        return f"cells {chooser.choice((0, 1, 2, 2, 3, 3, 3, 4, 5, 11))}"
    if kind < 3:
        return "draws " + chooser.choice((draws_text(draws), "coin 1 2", "bag 2 2", "coin 0 0", "", "coin 1  2"))
    if kind < 5:
        return "score " + chooser.choice((score_text(score), "c0", "sum(c0,c1)", "times(c0, c1)", ""))
    if kind == 5:
        return "play"
    if kind < 9:
        return f"drawn {chooser.choice('ABAB1')}"
    if kind < 13:
        return f"put {chooser.choice('0012345')}"
    if kind < 15:
        return chooser.choice(("rescore", "undo"))
    if kind == 15:
        return chooser.choice(WRONG + (None, 3, ("play",)))
    return chooser.choice(ASKING)


class TestShells(Checks, unittest.TestCase):
    def check_lines(self, shell, lines, answers):
        for line, answer in zip(lines, answers, strict=True):
            with self.subTest(line=line):
                self.assert_same(shell.say(line), answer)

    def test_lines_beside_a_shell_of_its_own(self):
        chooser = random.Random(491)
        seen = {}
        for _ in range(12):
            shell, model = Shell(), Model()
            for line in ("cells 3", "draws urn 1 2 1", f"score {MOST}", "play"):
                self.assert_same(shell.say(line), model.say(line))
            for _ in range(120):
                line = some_line(chooser, model.cells or 0, calm=True)
                with self.subTest(line=line):
                    answer = shell.say(line)
                    self.assert_same(answer, model.say(line))
                    seen[answer.split(" ")[0]] = seen.get(answer.split(" ")[0], 0) + 1
            self.assert_same(dump(shell), dump(model))
        self.assertLessEqual({"what", "error", "no", "version", "begun", "cells", "exchangeable", "not", "rising"}, set(seen))
        self.assertGreater(seen["version"], 150)
        self.assertGreater(seen["error"], 150)

    def test_what_is_lacking_at_each_stage(self):
        for words in ((), ("cells",), ("cells", "draws"), ("cells", "score"), ("cells", "draws", "score"),
                      ("cells", "draws", "score", "game")):
            for line, needs in NEEDS.items():
                with self.subTest(words=words, line=line):
                    answer = stage(words).say(line)
                    lacking = [] if needs is None else [word for word in needs if word not in words]
                    if needs is None:
                        self.assert_same(answer, "what")
                    elif lacking:
                        self.assert_same(answer, "no " + lacking[0])
                    else:
                        self.assertNotIn(answer, ("what", "no cells", "no draws", "no score", "no game"))

    def test_a_new_shell(self):
        lines = ("play", "numbers", "parting", "length", "least", "form", "stretches", "square", "rescore", "put 0", "undo",
                 "drawn A", "position", "log", "draws coin 1 1", "score c0", "draws x", "score ", "weighs 0")
        answers = ["no draws"] * 5 + ["no score"] * 4 + ["no game"] * 5 + ["no cells"] * 4 + ["no game"]
        self.check_lines(Shell(), lines, answers)

    def test_all_else_is_answered_by_what(self):
        for words in ((), ("cells", "draws", "score"), ("cells", "draws", "score", "game")):
            shell = stage(words)
            ahead = dump(shell)
            for line in WRONG:
                with self.subTest(line=line):
                    self.assert_same(shell.say(line), "what")
            self.assert_same(dump(shell), ahead)

    def test_any_values(self):
        for words in ((), ("cells", "draws", "score", "game")):
            shell = stage(words)
            ahead = dump(shell)
            self.with_any_values(lambda value: self.assert_same(shell.say(value), "what"))
            for value in (Game(2, ("coin", 1, 1), CELLS[0]), Shell(), ("play",), ["play"], {"play": 1}, b"play"):
                self.assert_same(shell.say(value), "what")
            self.assert_same(dump(shell), ahead)
            for value in any_values():
                if type(value) is str:
                    for word in ("draws ", "score "):
                        answer = shell.say(word + value)
                        self.assertIn(answer, ("no cells", "error BadText", "error BadScore", "rising"))
                    for word in ("cells ", "put ", "weighs "):
                        if not value.isdigit():
                            self.assert_same(shell.say(word + value), "what")

    def test_cells(self):
        shell = Shell()
        for many in range(1, 11):
            self.assert_same(shell.say(f"cells {many}"), f"cells {many}")
        for many in (0, 11, 12, 100, 10000, 99999):
            self.assert_same(shell.say(f"cells {many}"), "error Unfit")
        self.assert_same(shell.say("score c9"), "rising")
        self.assert_same(shell.say("cells 10"), "cells 10")
        self.assert_same(shell.say("form"), "no score")

    def test_cells_anew(self):
        shell = stage(("cells", "draws", "score", "game"))
        self.assert_same(shell.say("cells 11"), "error Unfit")
        self.assert_same([shell.say(line) for line in ("numbers", "form", "position")],
                         ["1/8 3/8 3/8 1/8", "0 1", "... -"])
        self.check_lines(shell, ("cells 3", "numbers", "form", "position", "play", "drawn A", "rescore", "score c2"),
                         ["cells 3", "no draws", "no score", "no game", "no draws", "no game", "no score", "rising"])

    def test_draws_and_scores(self):
        shell = Shell()
        shell.say("cells 3")
        for line, answer in (
            ("draws coin 1 1", "exchangeable"), ("draws row ABA", "not exchangeable"), ("draws row AAA", "exchangeable"),
            ("draws chain 1 1, 2 1, 1 2", "not exchangeable"), ("draws table BBB 3, AAA 1", "exchangeable"),
            ("draws mix 1 of coin 1 1; 1 of bag 2 1", "exchangeable"), ("draws row AB", "error BadDraws"),
            ("draws bag 1 1", "error BadDraws"), ("draws coin 0 0", "error BadText"), ("draws coin", "error BadText"),
            ("draws ", "error BadText"), ("draws coin 1 1 ", "error BadText"), ("draws  coin 1 1", "error BadText"),
            ("score c2", "rising"), ("score not(c2)", "not rising"), ("score 7", "rising"), ("score y 2", "rising"),
            ("score times(-1, c0)", "not rising"), ("score c3", "error BadScore"), ("score y 3", "error BadScore"),
            ("score if(c0, c1)", "error BadScore"), ("score c", "error BadText"), ("score ", "error BadText"),
            ("score c0 ", "error BadText"), ("score  c0", "error BadText"), ("score sum(c0,c1)", "error BadText"),
        ):
            self.assert_same(shell.say(line), answer)
        # What was read last without an error is kept.
        self.assert_same([shell.say("numbers"), shell.say("form")], ["1/16 3/16 11/16 1/16", "0 -1"])

    def test_a_game_goes_on_with_what_it_has(self):
        shell = Shell()
        lines = ("cells 2", "draws coin 1 3", "score c0", "play", "draws coin 1 1", "score times(c0, c1)", "mean", "numbers",
                 "form", "length", "drawn A", "put 1", "mean", "rescore", "mean", "log", "play", "mean", "log", "position")
        self.check_lines(shell, lines, [
            "cells 2", "exchangeable", "rising", "begun", "exchangeable", "rising", "1/4", "1/4 1/2 1/4", "0 0 1", "3/2",
            "version 1", "version 2", "1/4", "version 3", "1/4", "drawn A\nput 1\nscore times(c0, c1)\n", "begun", "1/4", "",
            ".. -"])

    def test_a_game_all_through(self):
        lines = ("cells 2", "draws bag 1 1", "score sum(c0, c0, c1)", "play", "hand", "best", "drawn B", "hand", "best",
                 "drawn A", "put 1", "hand", "position", "drawn B", "drawn A", "hand", "mean", "end", "put 1", "put 0", "end",
                 "mean", "worth", "position", "drawn A", "put 0", "undo", "undo", "undo", "undo", "undo", "log")
        self.check_lines(Shell(), lines, [
            "cells 2", "exchangeable", "rising", "begun", "nobody", "error Unfit", "version 1", "B", "0",
            "error Unfit", "version 2", "nobody", ".B B", "error Unfit", "version 3", "A", "2", "error Unfit", "error Unfit",
            "version 4", "2", "2", "2", "AB BA", "error Unfit", "error Unfit", "version 3", "version 2", "version 1",
            "version 0", "error NothingToUndo", ""])

    def test_fractions(self):
        shell = Shell()
        for lines, answers in (
            (("cells 2", "draws coin 1 2", "score sum(c0, c1, -1)", "play"), None),
            (("mean", "worth", "numbers", "square", "length", "least", "form", "weighs 1"),
             ["-1/3", "-1/3", "4/9 4/9 1/9", "4", "2", "2", "-1 2", "1"]),
            (("score 0", "play", "mean", "worth", "square", "length", "least", "form", "stretches", "weighs 0"),
             ["rising", "begun", "0", "0", "0", "0", "0", "0", "0 1", "0"]),
            (("score -5", "play", "mean", "form", "end"), ["rising", "begun", "-5", "-5", "error Unfit"]),
            (("draws row BB", "numbers", "play", "mean", "weighs 0"), ["exchangeable", "1 0 0", "begun", "-5", "error Unfit"]),
            (("score times(-2, c0)", "draws coin 1 1", "play", "mean", "square", "weighs 0", "weighs 1"),
             ["not rising", "exchangeable", "begun", "-1", "4", "-2", "0"]),
        ):
            told = [shell.say(line) for line in lines]
            if answers is not None:
                self.assert_same(told, answers)

    def test_more_of_draws_and_scores(self):
        shell = Shell()
        for lines, answers in (
            (("cells 3", "draws row ABB", "score sum(times(3, least(c0, c1)), c2)"), None),
            (("numbers", "parting", "form", "stretches", "square", "length", "least"),
             ["0 1 0 0", "BBA ABB", "0 1 3", "2; 0 1", "16", "error Unfit", "error Unfit"]),
            (("draws bag 2 1", "numbers", "parting", "length", "least"), ["exchangeable", "0 0 1 0", "none", "3", "8/3"]),
            (("score not(c0)", "form", "stretches", "length"), ["not rising", "1 -1", "1 2", "8/3"]),
        ):
            told = [shell.say(line) for line in lines]
            if answers is not None:
                self.assert_same(told, answers)

    def test_too_many(self):
        shell = Shell()
        lines = ("cells 6", "draws chain 1 1, 2 1, 1 2", "score c5", "play", "worth", "mean", "length", "least", "drawn A",
                 "best", "weighs 0", "put 0", "worth", "drawn B", "best", "draws coin 1 1", "least", "length", "play", "worth",
                 "weighs 5", "drawn A", "best")
        self.check_lines(shell, lines, [
            "cells 6", "not exchangeable", "rising", "begun", "error TooMany", "1/2", "error Unfit", "error Unfit", "version 1",
            "error TooMany", "error Unfit", "version 2", "2/3", "version 3", "5", "exchangeable", "error TooMany", "1", "begun",
            "error TooMany", "1", "version 1", "5"])

    def test_a_hundred_edits(self):
        shell = stage(("cells", "draws", "score", "game"))
        for place in range(100):
            self.assert_same(shell.say("rescore"), f"version {place + 1}")
        self.check_lines(shell, ("rescore", "drawn A", "put 0", "undo", "drawn A", "put 7", "put 0", "undo", "undo", "rescore"),
                         ["error TooManyEdits", "error TooManyEdits", "error Unfit", "version 99", "version 100", "error Unfit",
                          "error TooManyEdits", "version 99", "version 98", "version 99"])
        self.assert_same(shell.say("log"), "score c0\n" * 99)
        for place in range(98, -1, -1):
            self.assert_same(shell.say("undo"), f"version {place}")
        self.check_lines(shell, ("undo", "log", "play", "log"), ["error NothingToUndo", "", "begun", ""])

    def test_what_is_answered_by_errors_changes_nothing(self):
        chooser = random.Random(492)
        for _ in range(6):
            shell = stage(("cells", "draws", "score", "game"))
            for _ in range(60):
                ahead = dump(shell)
                answer = shell.say(some_line(chooser, 3))
                if answer == "what" or answer.startswith(("error ", "no ")):
                    self.assert_same(dump(shell), ahead)
                if answer.startswith("cells"):
                    shell = stage(("cells", "draws", "score", "game"))

    def test_two_shells_by_turns(self):
        chooser = random.Random(493)
        lines = [[some_line(chooser, 3) for _ in range(80)] for _ in range(2)]
        begin = ["cells 3", "draws coin 1 1", "score c1", "play"]
        alone = []
        for told in lines:
            shell = Shell()
            alone.append([shell.say(line) for line in begin + told])
        one, other = Shell(), Shell()
        turns = [(one.say(mine), other.say(theirs)) for mine, theirs in zip(begin + lines[0], begin + lines[1])]
        self.assert_same([list(told) for told in zip(*turns)], alone)

    def test_a_shell_that_is_told_what_a_log_tells(self):
        chooser = random.Random(494)
        long = 0
        for _ in range(40):
            shell, begun, kept = Shell(), [], []
            lines = ["cells 4", "draws coin 2 1", "score times(c0, c1)", "play"]
            lines += [some_line(chooser, 4, calm=True) for _ in range(50)]
            for line in lines:
                answer = shell.say(line)
                if answer == "what" or answer.startswith("error ") or answer in ("no cells", "no draws", "no score", "no game"):
                    continue
                if line.startswith("cells "):
                    begun, kept = [], []
                if line.startswith(("cells", "draws", "score")) or line == "play":
                    kept.append(line)
                if line == "play":
                    begun = list(kept)
            if not begun:
                continue
            other = Shell()
            for line in begun:
                self.assertNotIn(other.say(line)[:3], ("no ", "err", "wha"))
            edits = shell.say("log").split("\n")[:-1]
            long += len(edits) > 3
            for line in edits:
                other.say(line)
                if line.startswith("score "):
                    other.say("rescore")
            for line in ("position", "hand", "mean", "log"):
                self.assert_same(other.say(line), shell.say(line))
        self.assertGreater(long, 5)

    def test_mean_and_worth_are_one_with_exchangeable_draws(self):
        chooser = random.Random(495)
        told = 0
        for _ in range(12):
            shell = Shell()
            for line in ("cells 4", "draws urn 1 2 1", "score if(c0, c1, times(c2, c3))", "play"):
                shell.say(line)
            for _ in range(60):
                shell.say(some_line(chooser, 4))
                game = shell.say("mean")
                worth = shell.say("worth")
                if game != "no game" and not worth.startswith("error") and shell.say("weighs 0") != "error Unfit":
                    self.assert_same(game, worth)
                    told += 1
        self.assertGreater(told, 50)

    def test_hundreds_of_lines(self):
        shell = Shell()
        lines = ["cells 10", "draws mix 1 of coin 1 1; 2 of bag 7 9", "score y 4", "play"]
        for cell in range(10):
            lines += [f"drawn {'AB'[cell % 2]}", "mean", "best", f"put {(cell * 3) % 10}", "position", "rescore", "log"]
        answers = [shell.say(line) for line in lines * 3]
        self.assertEqual(answers[:len(lines)], answers[len(lines):2 * len(lines)])
        self.assertEqual(sum(answer.startswith("version") for answer in answers), 90)

    def test_by_names(self):
        shell = Shell()
        self.assert_same([shell.say(line="cells 2"), shell.say(line=None), shell.say(line="draws row AB")],
                         ["cells 2", "what", "not exchangeable"])


if __name__ == "__main__":
    unittest.main()
