"""The form of the package: its interface, and rules of the language that a look at the source can tell."""

import ast
import builtins
import importlib
import inspect
import os
import unittest

ROOT = os.path.dirname(os.path.dirname(os.path.abspath(__file__)))
PACKAGE = os.path.join(ROOT, "surepieces")

# The functions of the interface that are there, with the names of their parameters.
INTERFACE = {
    "books": {
        "is_book": ["value"], "is_ring": ["value"], "is_piece": ["book", "value"], "places": ["book"],
        "windows_of": ["size", "text"], "ring_windows": ["size", "ring"], "fits": ["book", "ring"],
        "stands_in": ["ring", "piece"], "least_turn": ["ring"], "way": ["book", "one", "other"],
        "has_ring": ["book"], "some_ring": ["book"], "closed_lot": ["book"], "is_closed_lot": ["book", "value"],
    },
    "sure": {
        "is_sure": ["book", "piece"], "leaving": ["book", "piece"], "is_leaving": ["book", "piece", "value"],
        "without": ["book", "piece"], "sure_paper": ["book", "piece"], "paper_holds": ["book", "piece", "value"],
    },
    "longest": {
        "is_endless": ["book"], "longer": ["book", "piece"], "longest": ["book"], "longest_with": ["book", "window"],
        "plain_pieces": ["book"],
    },
    "several": {
        "one_is_sure": ["book", "pieces"], "without_all": ["book", "pieces"], "needed": ["book", "pieces"],
        "fewest": ["book", "pieces"],
    },
    "counts": {
        "counts_of": ["book", "ring"], "balance": ["book", "counts"], "ring_of": ["book", "counts"],
        "counts_between": ["book", "bounds"], "bar": ["book", "bounds"], "bar_holds": ["book", "bounds", "value"],
        "most_of": ["book", "bounds", "window"], "least_of": ["book", "bounds", "window"],
    },
    "shortest": {
        "least_cost": ["book", "costs"], "best_counts": ["book", "costs"], "best_ring": ["book", "costs"],
        "shortest": ["book"], "prices": ["book", "costs"], "prices_hold": ["book", "costs", "cost", "value"],
        "is_best": ["book", "costs", "counts"], "cheaper": ["book", "costs", "counts"],
    },
    "numbers": {
        "many": ["book", "counts"], "many_from": ["book", "counts", "piece"], "rings_many": ["book", "counts"],
        "nth": ["book", "counts", "number"], "place": ["book", "counts", "ring"],
        "following": ["book", "counts", "ring"], "trees": ["book", "counts", "place"],
    },
    "spare": {
        "needed": ["book"], "may_go": ["book", "windows"], "largest_lots": ["book"], "round_ring": ["book"],
        "rest": ["book"], "joined": ["book", "more"], "least_join": ["book"],
    },
    "texts": {"show_book": ["book"], "show_counts": ["book", "counts"], "show_paper": ["value"]},
    "reading": {"read_book": ["text"]},
}
# The classes of the interface, but for errors, with their methods.
CLASSES = {
    "live": {"Live": {
        "__init__": ["size", "windows"], "put": ["window"], "take": ["window"], "back": [], "book": [], "has_ring": [],
        "is_sure": ["piece"], "shortest": [], "needed": [], "longest": [], "twin": [], "__len__": [],
        "__eq__": ["other"],
    }},
    "desk": {"Desk": {"__init__": [], "execute": ["line"]}},
}
PROPERTIES = {"Live": ["size", "windows", "story"]}
LIBRARY = {"itertools": ["combinations"], "math": ["factorial", "gcd"]}
BUILTINS = [
    "len", "range", "enumerate", "zip", "min", "max", "sum", "abs", "sorted", "reversed", "int", "str", "bool", "list",
    "tuple", "dict", "set", "isinstance", "ord", "repr", "any", "all", "divmod", "ValueError", "property",
]
METHODS = [
    "append", "endswith", "extend", "find", "get", "index", "insert", "items", "join", "keys", "partition", "pop",
    "remove", "reverse", "setdefault", "split", "startswith", "update", "values", "zfill",
]


def sources():
    """The name, the text and the tree of each file of the package."""
    found = []
    for name in sorted(os.listdir(PACKAGE)):
        if name != "__pycache__":
            with open(os.path.join(PACKAGE, name), encoding="utf-8") as file:
                text = file.read()
            found.append((name, text, ast.parse(text)))
    return found


class InterfaceTest(unittest.TestCase):
    def test_each_function_is_defined_in_its_file(self):
        trees = {name: tree for name, _, tree in sources()}
        for module, functions in INTERFACE.items():
            own = [node.name for node in trees[module + ".py"].body if isinstance(node, ast.FunctionDef)]
            for name in functions:
                self.assertEqual(own.count(name), 1, name)

    def test_parameters(self):
        for module, functions in INTERFACE.items():
            loaded = importlib.import_module("surepieces." + module)
            for name, parameters in functions.items():
                told = inspect.signature(getattr(loaded, name)).parameters.values()
                self.assertEqual([parameter.name for parameter in told], parameters)
                for parameter in told:
                    self.assertIs(parameter.kind, inspect.Parameter.POSITIONAL_OR_KEYWORD)
                    self.assertIs(parameter.default, inspect.Parameter.empty)


    def test_each_method_is_defined_in_its_class(self):
        trees = {name: tree for name, _, tree in sources()}
        for module, classes in CLASSES.items():
            for name, methods in classes.items():
                there = trees[module + ".py"].body
                own = [node for node in there if isinstance(node, ast.ClassDef) and node.name == name]
                self.assertEqual([len(own), own[0].bases], [1, []], name)
                told = {node.name: node for node in own[0].body if isinstance(node, ast.FunctionDef)}
                for method, parameters in methods.items():
                    self.assertEqual([arg.arg for arg in told[method].args.args], ["self"] + parameters, method)
                    self.assertFalse(told[method].args.defaults + told[method].decorator_list, method)
                for method in PROPERTIES.get(name, []):
                    self.assertEqual([part.id for part in told[method].decorator_list], ["property"], method)
                    self.assertEqual(len([node for node in own[0].body if getattr(node, "name", "") == method]), 1)


class FormTest(unittest.TestCase):
    def test_files(self):
        for name, text, _ in sources():
            self.assertTrue(name.endswith(".py") and name == name.lower(), name)
            self.assertTrue(all(sign == "\n" or " " <= sign <= "~" for sign in text), name)
            lines = text.split("\n")
            self.assertLess(len(lines), 400, name)
            self.assertLessEqual(max(len(line) for line in lines), 120, name)

    def test_functions_are_short(self):
        for name, _, tree in sources():
            for node in ast.walk(tree):
                if isinstance(node, ast.FunctionDef):
                    self.assertLessEqual(node.end_lineno - node.lineno + 1, 40, node.name)
                    self.assertIn([part.id for part in node.decorator_list], ([], ["property"]), node.name)
                    self.assertIsNotNone(ast.get_docstring(node) if node.name[:2] != "__" else "", node.name)

    def test_modules_hold_definitions_alone(self):
        for name, _, tree in sources():
            self.assertIsNotNone(ast.get_docstring(tree), name)
            for node in tree.body[1:]:
                self.assertIsInstance(node, (ast.ImportFrom, ast.FunctionDef, ast.ClassDef, ast.Assign), name)
                if isinstance(node, ast.ImportFrom):
                    self.assertTrue(all(alias.name != "*" and alias.asname is None for alias in node.names))
                    if node.module in LIBRARY:
                        self.assertTrue(all(alias.name in LIBRARY[node.module] for alias in node.names), name)
                    else:
                        self.assertTrue(node.module.startswith("surepieces.") and node.level == 0, name)

    def test_imports_name_the_file_that_defines_the_name(self):
        trees = {name: tree for name, _, tree in sources()}
        for name, tree in trees.items():
            for node in tree.body:
                if isinstance(node, ast.ImportFrom) and node.module not in LIBRARY:
                    there = trees[node.module.split(".")[1] + ".py"].body
                    own = [part.name for part in there if isinstance(part, (ast.FunctionDef, ast.ClassDef))]
                    self.assertEqual([alias.name for alias in node.names if alias.name not in own], [], name)
                    used = {part.id for part in ast.walk(tree) if isinstance(part, ast.Name)}
                    self.assertEqual([alias.name for alias in node.names if alias.name not in used], [], name)

    def test_no_variable_has_the_name_of_an_import(self):
        for name, _, tree in sources():
            imports = [alias.name for node in tree.body if isinstance(node, ast.ImportFrom) for alias in node.names]
            for node in ast.walk(tree):
                if isinstance(node, ast.Name) and isinstance(node.ctx, ast.Store):
                    self.assertNotIn(node.id, imports, name)
                if isinstance(node, ast.arg):
                    self.assertNotIn(node.arg, imports, name)

    def test_names_and_methods(self):
        barred = [name for name in dir(builtins) if not name.startswith("_")]
        methods = METHODS + [method for classes in CLASSES.values() for own in classes.values() for method in own]
        for name, _, tree in sources():
            for node in ast.walk(tree):
                if isinstance(node, ast.Name):
                    self.assertTrue(node.id not in barred or node.id in BUILTINS, (name, node.id))
                    self.assertTrue(isinstance(node.ctx, ast.Load) or node.id not in barred, (name, node.id))
                if isinstance(node, ast.Call) and isinstance(node.func, ast.Attribute):
                    self.assertIn(node.func.attr, methods, name)
                if isinstance(node, (ast.FunctionDef, ast.arg)):
                    own = node.name if isinstance(node, ast.FunctionDef) else node.arg
                    self.assertNotIn(own, barred, name)

    def test_no_floats_and_no_other_statements(self):
        barred = (ast.Div, ast.Global, ast.Nonlocal, ast.AsyncFunctionDef, ast.Yield, ast.YieldFrom, ast.Try, ast.Lambda)
        for name, _, tree in sources():
            for node in ast.walk(tree):
                self.assertNotIsInstance(node, barred, name)
                if isinstance(node, ast.Constant):
                    self.assertNotIsInstance(node.value, (float, complex), name)

    def test_imports_go_round_nowhere(self):
        below = {}
        for name, _, tree in sources():
            imports = [node.module for node in tree.body if isinstance(node, ast.ImportFrom)]
            below[name[:-3]] = [module.split(".")[1] for module in imports if module not in LIBRARY]
        done = []
        while len(done) < len(below):
            ready = [name for name in below if name not in done and all(other in done for other in below[name])]
            self.assertTrue(ready, below)
            done.extend(ready)


if __name__ == "__main__":
    unittest.main()
