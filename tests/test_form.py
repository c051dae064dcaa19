"""What can be seen from outside of the rules of form, and where the interface is defined."""

import ast
import builtins
import unittest
from pathlib import Path

import drawnturns

FOLDER = Path(drawnturns.__file__).parent
LIBRARY = {
    "heapq": {"heappush", "heappop", "heapify", "heapreplace", "heappushpop"},
    "math": {"gcd", "lcm", "isqrt", "comb", "perm", "factorial"},
    "itertools": {
        "product", "combinations", "permutations", "chain", "accumulate", "pairwise", "islice", "zip_longest",
    },
    "collections": {"defaultdict", "deque"},
}
INTERFACE = {
    "positions": {
        "position_error": ["many", "value"],
        "empty_cells": ["standing"],
        "taken": ["position", "hand", "cell"],
        "fillings": ["standing"],
    },
    "positiontexts": {"position_text": ["position"], "read_position": ["many", "value"]},
    "scores": {"score_error": ["many", "value"]},
    "scoring": {"worth_of": ["score", "board"], "is_rising": ["many", "score"], "depends": ["many", "score"]},
    "scoretexts": {"score_text": ["score"], "read_score": ["many", "value"]},
    "triangles": {
        "near": ["side", "cell"],
        "touches": ["side", "cell"],
        "reduced": ["side", "board"],
        "last_owner": ["side", "board"],
    },
    "hexes": {
        "hex_near": ["rows", "columns", "cell"],
        "hex_owner": ["rows", "columns", "board"],
        "hex_path": ["rows", "columns", "board"],
        "hex_in_y": ["rows", "columns"],
    },
    "drawkinds": {"draws_error": ["many", "value"]},
    "drawing": {
        "chance": ["many", "draws", "row"],
        "next_chance": ["many", "draws", "row"],
        "numbers_of": ["many", "draws"],
        "is_exchangeable": ["many", "draws"],
        "parting_rows": ["many", "draws"],
    },
    "drawtexts": {"draws_text": ["draws"], "read_draws": ["many", "value"]},
    "means": {"position_of": ["many"], "mean_at": ["draws", "score", "position"]},
    "gametree": {"worth_at": ["draws", "score", "position"]},
    "bestcells": {
        "weighs": ["draws", "score", "position", "cell"],
        "best_cells": ["draws", "score", "position", "hand"],
    },
    "partingscores": {"parting_score": ["many", "draws"], "parting_error": ["many", "draws", "value"]},
    "forms": {
        "form": ["many", "score"],
        "cell_form": ["many", "score", "cell"],
        "form_at": ["coefficients", "fraction"],
        "best_at": ["many", "score", "fraction"],
    },
    "roots": {"parted": ["one", "other"]},
    "stretches": {"stretches": ["many", "score"]},
    "chains": {"owner": ["side", "board"], "chain": ["side", "board"], "chain_error": ["side", "board", "value"]},
    "deciding": {"is_decided": ["score", "standing"]},
    "lengths": {
        "mean_turns": ["many", "draws", "score"],
        "fewest_turns": ["many", "draws", "score"],
        "most_turns": ["many", "draws", "score"],
        "least_mean_turns": ["many", "draws", "score"],
        "square": ["many", "score"],
    },
    "players": {
        "player_error": ["many", "value"],
        "choice": ["draws", "score", "position", "hand", "player"],
    },
    "playouts": {
        "outcome": ["many", "draws", "score", "one", "other"],
        "reply": ["many", "draws", "score", "player", "hand"],
    },
    "fullboards": {
        "weight_of": ["many", "draws", "board"],
        "full_chances": ["many", "draws", "score", "one", "other"],
    },
    "gamelogs": {
        "log_text": ["log"],
        "read_log": ["many", "value"],
        "game_behind": ["many", "draws", "score", "value"],
    },
}
# The classes with the methods that they define themselves.
CLASSES = {
    "games": ("Game", {
        "__init__": ["self", "many", "draws", "score"],
        "mean": ["self"],
        "best": ["self"],
        "worth": ["self"],
        "drawn": ["self", "hand"],
        "put": ["self", "cell"],
        "rescore": ["self", "score"],
        "undo": ["self"],
        "twin": ["self"],
        "__eq__": ["self", "other"],
        "__ne__": ["self", "other"],
    }),
    "shells": ("Shell", {"__init__": ["self"], "say": ["self", "line"]}),
}
FREE = {
    "object", "id", "format", "credits", "license", "copyright", "quit", "callable", "complex", "ascii", "oct",
    "memoryview", "aiter", "anext",
}
ERRORS = {
    "TurnError", "Unfit", "BadPosition", "BadScore", "BadDraws", "BadText", "BadLog", "TooMany", "TooManyEdits",
    "NothingToUndo",
}


def files():
    """The files of the package, each with its text and its tree."""
    found = []
    for path in sorted(FOLDER.rglob("*.py")):
        text = path.read_text(encoding="utf-8")
        found.append((path, text, ast.parse(text)))
    return found


def defined_in(tree):
    """The functions and classes that stand at the top of a file."""
    return {node.name: node for node in tree.body if isinstance(node, (ast.FunctionDef, ast.ClassDef))}


def bound_in(tree):
    """All names that are bound at the top of a file but by imports."""
    names = set(defined_in(tree))
    for node in tree.body:
        if isinstance(node, ast.Assign):
            names.update(target.id for target in node.targets)
        elif isinstance(node, ast.AnnAssign):
            names.add(node.target.id)
    return names


def given_names(tree):
    """All names that the file gives to parameters, variables, functions and classes, but not to methods."""
    methods = [
        node for kind in ast.walk(tree) if isinstance(kind, ast.ClassDef)
        for node in kind.body if isinstance(node, ast.FunctionDef)
    ]
    names = set()
    for node in ast.walk(tree):
        if isinstance(node, ast.arg):
            names.add(node.arg)
        elif isinstance(node, ast.Name) and isinstance(node.ctx, ast.Store):
            names.add(node.id)
        elif isinstance(node, (ast.FunctionDef, ast.ClassDef)) and node not in methods:
            names.add(node.name)
    return names


class TestForm(unittest.TestCase):
    def test_the_folder_holds_files_of_python_alone(self):
        for path in FOLDER.rglob("*"):
            if "__pycache__" not in path.parts and path.is_file():
                self.assertEqual(path.suffix, ".py", path)
        self.assertTrue((FOLDER / "__init__.py").is_file())

    def test_signs_lines_and_sizes(self):
        for path, text, tree in files():
            lines = text.split("\n")
            with self.subTest(path=path.name):
                self.assertEqual([sign for sign in text if sign != "\n" and not " " <= sign <= "~"], [])
                self.assertLessEqual(text.count("\n"), 399)
                self.assertEqual([line for line in lines if len(line) > 120], [])
                for node in ast.walk(tree):
                    if isinstance(node, ast.FunctionDef):
                        self.assertLessEqual(node.end_lineno - node.lineno + 1, 40, node.name)

    def test_imports(self):
        trees = {path.stem: tree for path, _, tree in files()}
        for path, _, tree in files():
            top = [node for node in tree.body if isinstance(node, ast.ImportFrom)]
            for node in ast.walk(tree):
                self.assertFalse(isinstance(node, ast.Import) and path.name != "__main__.py", path)
                if not isinstance(node, ast.ImportFrom):
                    continue
                self.assertIn(node, top, path)
                self.assertEqual(node.level, 0)
                names = {alias.name for alias in node.names}
                if node.module in LIBRARY:
                    self.assertLessEqual(names, LIBRARY[node.module])
                elif node.module != "__future__":
                    package, _, name = node.module.partition(".")
                    self.assertEqual(package, "drawnturns", path)
                    self.assertLessEqual(names, bound_in(trees[name]), path)

    def test_no_two_files_import_from_each_other(self):
        ahead = {}
        for path, _, tree in files():
            modules = [node.module for node in tree.body if isinstance(node, ast.ImportFrom)]
            ahead[path.stem] = {name.partition(".")[2] for name in modules if name.startswith("drawnturns.")}
        while ahead:
            free = [name for name, needed in ahead.items() if not needed & set(ahead)]
            self.assertTrue(free, ahead)
            ahead = {name: needed for name, needed in ahead.items() if name not in free}

    def test_module_level_and_statements(self):
        barred = (ast.AsyncFunctionDef, ast.Await, ast.Div, ast.TryStar)
        for path, _, tree in files():
            if path.name == "__main__.py":
                continue
            for node in tree.body:
                plain = (ast.ImportFrom, ast.FunctionDef, ast.ClassDef, ast.Assign, ast.AnnAssign)
                docstring = isinstance(node, ast.Expr) and isinstance(node.value, ast.Constant)
                self.assertTrue(isinstance(node, plain) or docstring, (path, node.lineno))
            for node in ast.walk(tree):
                self.assertFalse(isinstance(node, barred), (path, node))
                self.assertFalse(isinstance(node, ast.Constant) and isinstance(node.value, float), path)

    def test_no_name_of_a_builtin_is_given_away(self):
        for path, _, tree in files():
            self.assertEqual((given_names(tree) & set(dir(builtins))) - FREE, set(), path)

    def test_the_interface_is_defined_where_it_is_listed(self):
        trees = {path.stem: tree for path, _, tree in files()}
        for module, functions in INTERFACE.items():
            here = defined_in(trees[module])
            for name, parameters in functions.items():
                with self.subTest(module=module, name=name):
                    self.assertIsInstance(here[name], ast.FunctionDef)
                    self.assertEqual([arg.arg for arg in here[name].args.args], parameters)
        for module, (name, methods) in CLASSES.items():
            kind = defined_in(trees[module])[name]
            self.assertIsInstance(kind, ast.ClassDef)
            here = {node.name: node for node in kind.body if isinstance(node, ast.FunctionDef)}
            for method, parameters in methods.items():
                self.assertEqual([arg.arg for arg in here[method].args.args], parameters, method)
        here = defined_in(trees["errors"])
        self.assertLessEqual(ERRORS, set(here))
        self.assertTrue(all(isinstance(here[name], ast.ClassDef) for name in ERRORS))


if __name__ == "__main__":
    unittest.main()
