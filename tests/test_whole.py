"""What holds of all calls: by place and by names, again and again, what goes in and what comes out."""

import copy
import importlib
import unittest

from checks import Checks, same
from test_form import INTERFACE

COIN, PAIR = ("coin", 1, 2), ("sum", ("times", ("number", 2), ("times", ("cell", 0), ("cell", 1))), ("cell", 2))
TOLD, NOTHING = ("row", (1, 0, 0)), ((), (None, None, None))
BEGUN = ((1,), (1, None, None))
# Arguments of each call of the interface, two sets for some.
CALLS = {
    "position_error": [(3, BEGUN), (3, ((1,), (0, None, None)))],
    "empty_cells": [(BEGUN[1],)],
    "taken": [(BEGUN, 0, 2)],
    "fillings": [(BEGUN[1],)],
    "position_text": [(BEGUN,)],
    "read_position": [(3, "A.. A")],
    "score_error": [(3, PAIR), (3, ("sum", ("cell", 9)))],
    "worth_of": [(PAIR, (1, 1, 0)), (("not", ("y", 2)), (0, 0, 1))],
    "is_rising": [(3, PAIR)],
    "depends": [(4, PAIR)],
    "score_text": [(PAIR,)],
    "read_score": [(3, "if(c0, y 2, -1)")],
    "near": [(4, 4)],
    "touches": [(3, 3)],
    "reduced": [(2, (1, 0, 1))],
    "last_owner": [(2, (1, 0, 1))],
    "hex_near": [(2, 3, 1)],
    "hex_owner": [(2, 2, (1, 0, 1, 0))],
    "hex_path": [(2, 2, (1, 0, 1, 0))],
    "hex_in_y": [(2, 2)],
    "draws_error": [(3, COIN), (3, ("mix", ((1, ("row", (1,))),)))],
    "chance": [(3, COIN, (1, 0))],
    "next_chance": [(3, COIN, (1, 0))],
    "numbers_of": [(3, COIN)],
    "is_exchangeable": [(3, COIN), (3, TOLD)],
    "parting_rows": [(3, COIN), (3, TOLD)],
    "draws_text": [(("table", (((0, 1), 2), ((1, 1), 3))),)],
    "read_draws": [(3, "mix 1 of coin 1 2; 3 of row ABB")],
    "position_of": [(3,)],
    "mean_at": [(COIN, PAIR, BEGUN)],
    "worth_at": [(COIN, PAIR, BEGUN), (TOLD, PAIR, NOTHING)],
    "weighs": [(COIN, PAIR, BEGUN, 2)],
    "best_cells": [(COIN, PAIR, BEGUN, 0), (TOLD, PAIR, NOTHING, 1)],
    "parting_score": [(3, COIN), (3, TOLD)],
    "parting_error": [(3, TOLD, ("cell", 0)), (3, COIN, ("cell", 3)), (3, COIN, PAIR)],
    "form": [(3, PAIR)],
    "cell_form": [(3, PAIR, 1)],
    "form_at": [((0, 1, 2), (2, 3))],
    "best_at": [(3, PAIR, (2, 3))],
    "parted": [((1,), (0, 4, -4)), ((1,), (1,))],
    "stretches": [(3, PAIR)],
    "owner": [(2, (1, 0, 1))],
    "chain": [(2, (1, 0, 1))],
    "chain_error": [(2, (1, 0, 1), (0, 2)), (2, (1, 0, 1), (0,))],
    "is_decided": [(PAIR, (1, 1, None)), (("y", 2), (1, 1, None))],
    "mean_turns": [(3, COIN, ("y", 2))],
    "fewest_turns": [(3, COIN, ("y", 2))],
    "most_turns": [(3, COIN, ("y", 2))],
    "least_mean_turns": [(3, COIN, ("y", 2))],
    "square": [(3, PAIR)],
    "player_error": [(3, ("order", (2, 0, 1))), (3, ("toward", 3))],
    "choice": [(COIN, PAIR, BEGUN, 1, ("worst",)), (TOLD, PAIR, NOTHING, 1, ("weight", (1, 2, 2)))],
    "outcome": [(3, TOLD, PAIR, ("best",), ("worst",))],
    "reply": [(3, COIN, PAIR, ("toward", 1), 0)],
    "weight_of": [(3, COIN, (1, 0, 1))],
    "full_chances": [(3, COIN, PAIR, ("best",), ("order", (2, 1, 0)))],
    "log_text": [((("drawn", 1), ("put", 2), ("rescore", PAIR)),)],
    "read_log": [(3, "drawn B\nput 2\nscore y 2\n")],
    "game_behind": [(3, COIN, PAIR, (("drawn", 1), ("put", 2)))],
}


def is_plain(value):
    """Whether the value consists of None, bools, integers, strings and tuples alone, of these classes themselves."""
    if type(value) is tuple:
        return all(is_plain(item) for item in value)
    return value is None or type(value) in (bool, int, str)


def all_calls():
    """Each call of the interface with its name, the names of its arguments, and some arguments."""
    for module, functions in INTERFACE.items():
        for name, parameters in functions.items():
            call = getattr(importlib.import_module("drawnturns." + module), name)
            for given in CALLS[name]:
                yield name, call, parameters, given


class TestWhole(Checks, unittest.TestCase):
    def test_all_calls_are_tried(self):
        names = [name for functions in INTERFACE.values() for name in functions]
        self.assertEqual(sorted(names), sorted(CALLS))

    def test_by_place_and_by_names_again_and_again(self):
        for name, call, parameters, given in all_calls():
            with self.subTest(name=name):
                kept = copy.deepcopy(given)
                told = call(*given)
                again = copy.deepcopy(told)
                named = dict(reversed(list(zip(parameters, given, strict=True))))
                for other in (call(**named), call(*given), call(*copy.deepcopy(given))):
                    self.assertTrue(same(other, told) if name != "game_behind" else other == told)
                self.assertTrue(same(given, kept))
                self.assertTrue(told == again)

    def test_classes_of_what_is_returned(self):
        for name, call, _, given in all_calls():
            if name != "game_behind":
                with self.subTest(name=name):
                    self.assertTrue(is_plain(call(*given)))

    def test_fractions_are_in_lowest_terms(self):
        for value in (-10 ** 6, -6, 0, 4, 10 ** 6):
            score = ("times", ("number", value), ("sum", ("cell", 0), ("cell", 1)))
            for name in ("mean_at", "worth_at"):
                call = next(call for told, call, _, _ in all_calls() if told == name)
                self.assert_same(call(("coin", 1, 1), score, ((), (None, None))), (value, 1))
                self.assert_same(call(("coin", 2, 6), score, ((), (None, None))), (value // 2, 1))


if __name__ == "__main__":
    unittest.main()
