import random
import unittest

import drawn
import reference
from checks import Checks, any_values
from drawnturns.drawtexts import draws_text
from drawnturns.games import Game
from drawnturns.scoretexts import score_text
from drawnturns.shells import Shell
from shelling import Model

CELLS = [("cell", cell) for cell in range(10)]
MOST = "greatest(least(c0, c1), least(c0, c2), least(c1, c2))"
# Lines that ask, each of them answered by the same as long as nothing changes.
ASKING = (
    "position", "hand", "mean", "best", "end", "worth", "weighs 0", "weighs 1", "log", "numbers", "parting", "form",
    "stretches", "square", "length", "least",
)
# For each line what it needs, in the order in which it is told.
NEEDS = {
    "draws coin 1 1": ["cells"], "score c0": ["cells"], "draws": None, "score": None, "play": ["draws", "score"],
    "numbers": ["draws"], "parting": ["draws"], "form": ["score"], "stretches": ["score"], "square": ["score"],
    "length": ["draws", "score"], "least": ["draws", "score"], "rescore": ["score", "game"], "drawn A": ["game"],
    "drawn B": ["game"], "put 0": ["game"], "undo": ["game"], "position": ["game"], "hand": ["game"], "mean": ["game"],
    "best": ["game"], "end": ["game"], "worth": ["game"], "weighs 0": ["game"], "log": ["game"], "cells 0": [],
    "put 99999": ["game"], "weighs 99999": ["game"], "draws ": ["cells"], "score ": ["cells"],
}
WRONG = (
    "", " ", "cells", "cells ", "cells 03", "cells 3 ", "cells  3", " cells 3", "cells -1", "cells +3", "cells 3.0",
    "cells three", "cells 100000", "cells 99999999999", "cells 00", "Cells 3", "cells 3\n", "cells 3 3", "draws",
    "score", "draws\ncoin 1 1", "play ", " play", "Play", "play 1", "begin", "drawn", "drawn ", "drawn C", "drawn a",
    "drawn AB", "drawn A ", "drawn  A", "drawn 1", "put", "put ", "put 01", "put -1", "put A", "put c1", "put 100000",
    "put 1 ", "put  1", "rescore ", "rescore c0", "undo ", "undo 1", "position ", "position 1", "hand A", "mean ",
    "means", "best 1", "end ", "worth 0", "weighs", "weighs ", "weighs c0", "weighs 00", "weighs 100000", "weighs 0 ",
    "log ", "numbers ", "parting 1", "form ", "stretches ", "square 1", "length ", "least ", "what", "no game",
    "version", "twin", "help", "play\n", "\nplay", "cells\t3", "error Unfit", "PLAY",
)
REFUSED = ("what", "no cells", "no draws", "no score", "no game")


def stage(words):
    """A shell that has just what the words tell, of cells, draws, score and game."""
    shell = Shell()
    for word, line in (("cells", "cells 3"), ("draws", "draws coin 1 1"), ("score", "score c0"), ("game", "play")):
        if word in words:
            shell.say(line)
    return shell


def dump(shell):
    """What a shell answers to all lines that ask."""
    return [shell.say(line) for line in ASKING]


def some_line(chooser, many, calm=False):
    """A line of some sort, right or wrong; if calm, seldom one by which a game comes to its end."""
    draws = drawn.some_draws(chooser, max(1, many), chooser.choice(drawn.KINDS))
    score = reference.drawn_scores(chooser.random(), max(1, many + chooser.randrange(2)), 2, 1)[0]
    kind = chooser.randrange(20)
    if calm and kind in (0, 5) and chooser.randrange(10):
        kind = 6
    if kind == 0:
        return f"cells {chooser.choice((0, 1, 2, 2, 3, 3, 3, 4, 5, 11))}"
    if kind < 3:
        return "draws " + chooser.choice((draws_text(draws), "coin 1 2", "bag 2 2", "coin 0 0", "", "coin 1  2"))
    if kind < 5:
        return "score " + chooser.choice((score_text(score), "c0", "sum(c0,c1)", "times(c0, c1)", ""))
    if kind == 5:
        return "play"
    if kind < 9:
        return f"drawn {chooser.choice('ABAB1')}"
    if kind < 13:
        return f"put {chooser.choice('0012345')}"
    if kind < 15:
        return chooser.choice(("rescore", "undo"))
    if kind == 15:
        return chooser.choice(WRONG + (None, 3, ("play",)))
    return chooser.choice(ASKING)


class TestShells(Checks, unittest.TestCase):
    def check_lines(self, shell, pairs):
        """Each line of the pairs, said in turn, is answered as it is told."""
        for line, answer in pairs:
            with self.subTest(line=line):
                self.assert_same(shell.say(line), answer)

    def test_lines_beside_a_shell_of_its_own(self):
        chooser = random.Random(491)
        seen = {}
        for _ in range(12):
            shell, model = Shell(), Model()
            for line in ("cells 3", "draws urn 1 2 1", f"score {MOST}", "play"):
                self.assert_same(shell.say(line), model.say(line))
            for _ in range(120):
                line = some_line(chooser, model.cells or 0, calm=True)
                with self.subTest(line=line):
                    answer = shell.say(line)
                    self.assert_same(answer, model.say(line))
                    seen[answer.split(" ")[0]] = seen.get(answer.split(" ")[0], 0) + 1
            self.assert_same(dump(shell), dump(model))
        self.assertLessEqual({"what", "error", "no", "version", "begun", "cells", "exchangeable", "not", "rising"},
                             set(seen))
        self.assertGreater(seen["version"], 150)
        self.assertGreater(seen["error"], 150)

    def test_what_is_lacking_at_each_stage(self):
        for words in ((), ("cells",), ("cells", "draws"), ("cells", "score"), ("cells", "draws", "score"),
                      ("cells", "draws", "score", "game")):
            for line, needs in NEEDS.items():
                with self.subTest(words=words, line=line):
                    answer = stage(words).say(line)
                    lacking = [] if needs is None else [word for word in needs if word not in words]
                    if needs is None:
                        self.assert_same(answer, "what")
                    elif lacking:
                        self.assert_same(answer, "no " + lacking[0])
                    else:
                        self.assertNotIn(answer, REFUSED)

    def test_a_new_shell(self):
        self.check_lines(Shell(), (
            ("play", "no draws"), ("numbers", "no draws"), ("parting", "no draws"), ("length", "no draws"),
            ("least", "no draws"), ("form", "no score"), ("stretches", "no score"), ("square", "no score"),
            ("rescore", "no score"), ("put 0", "no game"), ("undo", "no game"), ("drawn A", "no game"),
            ("position", "no game"), ("log", "no game"), ("draws coin 1 1", "no cells"), ("score c0", "no cells"),
            ("draws x", "no cells"), ("score ", "no cells"), ("weighs 0", "no game"),
        ))

    def test_all_else_is_answered_by_what(self):
        for words in ((), ("cells", "draws", "score"), ("cells", "draws", "score", "game")):
            shell = stage(words)
            ahead = dump(shell)
            for line in WRONG:
                with self.subTest(line=line):
                    self.assert_same(shell.say(line), "what")
            self.assert_same(dump(shell), ahead)

    def test_any_values(self):
        for words in ((), ("cells", "draws", "score", "game")):
            shell = stage(words)
            ahead = dump(shell)
            self.with_any_values(lambda value: self.assert_same(shell.say(value), "what"))
            for value in (Game(2, ("coin", 1, 1), CELLS[0]), Shell(), ("play",), ["play"], {"play": 1}, b"play"):
                self.assert_same(shell.say(value), "what")
            self.assert_same(dump(shell), ahead)
            for value in any_values():
                if type(value) is str:
                    for word in ("draws ", "score "):
                        answer = shell.say(word + value)
                        self.assertIn(answer, ("no cells", "error BadText", "error BadScore", "rising"))
                    for word in ("cells ", "put ", "weighs "):
                        if not value.isdigit():
                            self.assert_same(shell.say(word + value), "what")

    def test_cells(self):
        shell = Shell()
        for many in range(1, 11):
            self.assert_same(shell.say(f"cells {many}"), f"cells {many}")
        for many in (0, 11, 12, 100, 10000, 99999):
            self.assert_same(shell.say(f"cells {many}"), "error Unfit")
        self.assert_same(shell.say("score c9"), "rising")
        self.assert_same(shell.say("cells 10"), "cells 10")
        self.assert_same(shell.say("form"), "no score")

    def test_cells_anew(self):
        shell = stage(("cells", "draws", "score", "game"))
        self.assert_same(shell.say("cells 11"), "error Unfit")
        self.assert_same([shell.say(line) for line in ("numbers", "form", "position")],
                         ["1/8 3/8 3/8 1/8", "0 1", "... -"])
        self.check_lines(shell, (
            ("cells 3", "cells 3"), ("numbers", "no draws"), ("form", "no score"), ("position", "no game"),
            ("play", "no draws"), ("drawn A", "no game"), ("rescore", "no score"), ("score c2", "rising"),
        ))

    def test_draws_and_scores(self):
        shell = Shell()
        shell.say("cells 3")
        self.check_lines(shell, (
            ("draws coin 1 1", "exchangeable"), ("draws row ABA", "not exchangeable"),
            ("draws row AAA", "exchangeable"), ("draws chain 1 1, 2 1, 1 2", "not exchangeable"),
            ("draws table BBB 3, AAA 1", "exchangeable"), ("draws mix 1 of coin 1 1; 1 of bag 2 1", "exchangeable"),
            ("draws row AB", "error BadDraws"), ("draws bag 1 1", "error BadDraws"),
            ("draws coin 0 0", "error BadText"), ("draws coin", "error BadText"), ("draws ", "error BadText"),
            ("draws coin 1 1 ", "error BadText"), ("draws  coin 1 1", "error BadText"), ("score c2", "rising"),
            ("score not(c2)", "not rising"), ("score 7", "rising"), ("score y 2", "rising"),
            ("score times(-1, c0)", "not rising"), ("score c3", "error BadScore"), ("score y 3", "error BadScore"),
            ("score if(c0, c1)", "error BadScore"), ("score c", "error BadText"), ("score ", "error BadText"),
            ("score c0 ", "error BadText"), ("score  c0", "error BadText"), ("score sum(c0,c1)", "error BadText"),
        ))
        # What was read last without an error is kept.
        self.assert_same([shell.say("numbers"), shell.say("form")], ["1/16 3/16 11/16 1/16", "0 -1"])

    def test_a_game_goes_on_with_what_it_has(self):
        shell = Shell()
        self.check_lines(shell, (
            ("cells 2", "cells 2"), ("draws coin 1 3", "exchangeable"), ("score c0", "rising"), ("play", "begun"),
            ("draws coin 1 1", "exchangeable"), ("score times(c0, c1)", "rising"), ("mean", "1/4"),
            ("numbers", "1/4 1/2 1/4"), ("form", "0 0 1"), ("length", "3/2"), ("drawn A", "version 1"),
            ("put 1", "version 2"), ("mean", "1/4"), ("rescore", "version 3"), ("mean", "1/4"),
            ("log", "drawn A\nput 1\nscore times(c0, c1)\n"), ("play", "begun"), ("mean", "1/4"), ("log", ""),
            ("position", ".. -"),
        ))

    def test_a_game_all_through(self):
        self.check_lines(Shell(), (
            ("cells 2", "cells 2"), ("draws bag 1 1", "exchangeable"), ("score sum(c0, c0, c1)", "rising"),
            ("play", "begun"), ("hand", "nobody"), ("best", "error Unfit"), ("drawn B", "version 1"), ("hand", "B"),
            ("best", "0"), ("drawn A", "error Unfit"), ("put 1", "version 2"), ("hand", "nobody"),
            ("position", ".B B"), ("drawn B", "error Unfit"), ("drawn A", "version 3"), ("hand", "A"), ("mean", "2"),
            ("end", "error Unfit"), ("put 1", "error Unfit"), ("put 0", "version 4"), ("end", "2"), ("mean", "2"),
            ("worth", "2"), ("position", "AB BA"), ("drawn A", "error Unfit"), ("put 0", "error Unfit"),
            ("undo", "version 3"), ("undo", "version 2"), ("undo", "version 1"), ("undo", "version 0"),
            ("undo", "error NothingToUndo"), ("log", ""),
        ))

    def test_fractions(self):
        self.check_lines(Shell(), (
            ("cells 2", "cells 2"), ("draws coin 1 2", "exchangeable"), ("score sum(c0, c1, -1)", "rising"),
            ("play", "begun"), ("mean", "-1/3"), ("worth", "-1/3"), ("numbers", "4/9 4/9 1/9"), ("square", "4"),
            ("length", "2"), ("least", "2"), ("form", "-1 2"), ("weighs 1", "1"), ("score 0", "rising"),
            ("play", "begun"), ("mean", "0"), ("worth", "0"), ("square", "0"), ("length", "0"), ("least", "0"),
            ("form", "0"), ("stretches", "0 1"), ("weighs 0", "0"), ("score -5", "rising"), ("play", "begun"),
            ("mean", "-5"), ("form", "-5"), ("end", "error Unfit"), ("draws row BB", "exchangeable"),
            ("numbers", "1 0 0"), ("play", "begun"), ("mean", "-5"), ("weighs 0", "error Unfit"),
            ("score times(-2, c0)", "not rising"), ("draws coin 1 1", "exchangeable"), ("play", "begun"),
            ("mean", "-1"), ("square", "4"), ("weighs 0", "-2"), ("weighs 1", "0"),
        ))

    def test_more_of_draws_and_scores(self):
        self.check_lines(Shell(), (
            ("cells 3", "cells 3"), ("draws row ABB", "not exchangeable"),
            ("score sum(times(3, least(c0, c1)), c2)", "rising"), ("numbers", "0 1 0 0"), ("parting", "BBA ABB"),
            ("form", "0 1 3"), ("stretches", "2; 0 1"), ("square", "16"), ("length", "error Unfit"),
            ("least", "error Unfit"), ("draws bag 2 1", "exchangeable"), ("numbers", "0 0 1 0"), ("parting", "none"),
            ("length", "3"), ("least", "8/3"), ("score not(c0)", "not rising"), ("form", "1 -1"),
            ("stretches", "1 2"), ("length", "8/3"),
        ))

    def test_too_many(self):
        shell = Shell()
        self.check_lines(shell, (
            ("cells 6", "cells 6"), ("draws chain 1 1, 2 1, 1 2", "not exchangeable"), ("score c5", "rising"),
            ("play", "begun"), ("worth", "error TooMany"), ("mean", "1/2"), ("length", "error Unfit"),
            ("least", "error Unfit"), ("drawn A", "version 1"), ("best", "error TooMany"),
            ("weighs 0", "error Unfit"), ("put 0", "version 2"), ("worth", "2/3"), ("drawn B", "version 3"),
            ("best", "5"), ("draws coin 1 1", "exchangeable"), ("least", "error TooMany"), ("length", "1"),
            ("play", "begun"), ("worth", "error TooMany"), ("weighs 5", "1"), ("drawn A", "version 1"), ("best", "5"),
        ))

    def test_a_hundred_edits(self):
        shell = stage(("cells", "draws", "score", "game"))
        for place in range(100):
            self.assert_same(shell.say("rescore"), f"version {place + 1}")
        self.check_lines(shell, (
            ("rescore", "error TooManyEdits"), ("drawn A", "error TooManyEdits"), ("put 0", "error Unfit"),
            ("undo", "version 99"), ("drawn A", "version 100"), ("put 7", "error Unfit"),
            ("put 0", "error TooManyEdits"), ("undo", "version 99"), ("undo", "version 98"), ("rescore", "version 99"),
        ))
        self.assert_same(shell.say("log"), "score c0\n" * 99)
        for place in range(98, -1, -1):
            self.assert_same(shell.say("undo"), f"version {place}")
        self.check_lines(shell, (("undo", "error NothingToUndo"), ("log", ""), ("play", "begun"), ("log", "")))

    def test_what_is_answered_by_errors_changes_nothing(self):
        chooser = random.Random(492)
        for _ in range(6):
            shell = stage(("cells", "draws", "score", "game"))
            for _ in range(60):
                ahead = dump(shell)
                answer = shell.say(some_line(chooser, 3))
                if answer.startswith("error ") or answer in REFUSED:
                    self.assert_same(dump(shell), ahead)
                if answer.startswith("cells"):
                    shell = stage(("cells", "draws", "score", "game"))

    def test_two_shells_by_turns(self):
        chooser = random.Random(493)
        lines = [[some_line(chooser, 3) for _ in range(80)] for _ in range(2)]
        begin = ["cells 3", "draws coin 1 1", "score c1", "play"]
        alone = []
        for told in lines:
            shell = Shell()
            alone.append([shell.say(line) for line in begin + told])
        one, other = Shell(), Shell()
        turns = [(one.say(mine), other.say(theirs)) for mine, theirs in zip(begin + lines[0], begin + lines[1])]
        self.assert_same([list(told) for told in zip(*turns)], alone)

    def test_a_shell_that_is_told_what_a_log_tells(self):
        chooser = random.Random(494)
        long = 0
        for _ in range(40):
            shell, begun, kept = Shell(), [], []
            lines = ["cells 4", "draws coin 2 1", "score times(c0, c1)", "play"]
            lines += [some_line(chooser, 4, calm=True) for _ in range(50)]
            for line in lines:
                answer = shell.say(line)
                if answer.startswith("error ") or answer in REFUSED:
                    continue
                if line.startswith(("cells", "draws", "score")) or line == "play":
                    kept.append(line)
                if line == "play":
                    begun = list(kept)
                if line.startswith("cells"):
                    begun = []
            if not begun:
                continue
            other = Shell()
            for line in begun:
                answer = other.say(line)
                self.assertFalse(answer.startswith("error ") or answer in REFUSED)
            edits = shell.say("log").split("\n")[:-1]
            long += len(edits) > 3
            for line in edits:
                other.say(line)
                if line.startswith("score "):
                    other.say("rescore")
            for line in ("position", "hand", "mean", "log"):
                self.assert_same(other.say(line), shell.say(line))
        self.assertGreater(long, 5)

    def test_mean_and_worth_are_one_with_exchangeable_draws(self):
        chooser = random.Random(495)
        told = 0
        for _ in range(12):
            shell = Shell()
            for line in ("cells 4", "draws urn 1 2 1", "score if(c0, c1, times(c2, c3))", "play"):
                shell.say(line)
            for _ in range(60):
                shell.say(some_line(chooser, 4))
                game = shell.say("mean")
                worth = shell.say("worth")
                if game != "no game" and not worth.startswith("error") and shell.say("weighs 0") != "error Unfit":
                    self.assert_same(game, worth)
                    told += 1
        self.assertGreater(told, 50)

    def test_hundreds_of_lines(self):
        shell = Shell()
        lines = ["cells 10", "draws mix 1 of coin 1 1; 2 of bag 7 9", "score y 4", "play"]
        for cell in range(10):
            lines += [f"drawn {'AB'[cell % 2]}", "mean", "best", f"put {(cell * 3) % 10}", "position", "rescore", "log"]
        answers = [shell.say(line) for line in lines * 3]
        self.assertEqual(answers[:len(lines)], answers[len(lines):2 * len(lines)])
        self.assertEqual(sum(answer.startswith("version") for answer in answers), 90)

    def test_by_names(self):
        shell = Shell()
        self.assert_same([shell.say(line="cells 2"), shell.say(line=None), shell.say(line="draws row AB")],
                         ["cells 2", "what", "not exchangeable"])


if __name__ == "__main__":
    unittest.main()
