"""The interface by its names, and the rules for files that can be read off them."""

import ast
import importlib
import inspect
import pathlib
import unittest
import warnings

FOLDER = pathlib.Path(__file__).resolve().parent.parent / "legion"

INTERFACE = {
    "errors": {
        "LegionError": None, "BadText": None, "BadProgram": None, "BadMachine": None,
        "OutOfRange": None, "NotPossible": None, "BadCommand": None,
    },
    "program": {
        "check_program": ["program"], "value_of": ["value", "values"],
        "holds": ["condition", "values"], "fitted": ["variable", "number"],
        "crew_kind": ["program"],
    },
    "flow": {
        "steps_of": ["kind"], "points_of": ["kind"], "marks_of": ["kind"], "held_at": ["kind"],
        "lines_of": ["kind"],
    },
    "notation": {"format_program": ["program"], "parse_program": ["text"]},
    "machine": {
        "Layout": ["program"], "compile_program": ["program"], "check_machine": ["machine"],
    },
    "runs": {
        "start_with": ["machine", "crew"], "is_possible": ["machine", "situation", "move"],
        "after": ["machine", "situation", "move"], "possible_moves": ["machine", "situation"],
        "follow": ["machine", "situation", "run"],
        "scheduled": ["machine", "situation", "schedule"],
        "situations": ["machine", "situation", "run"],
    },
    "order": {
        "covers": ["first", "second"], "least_ones": ["situations"],
        "is_above": ["situation", "basis"],
    },
    "back": {
        "predecessors": ["machine", "move", "situation"],
        "layers": ["machine", "bad", "*", "fuel"],
    },
    "certificate": {
        "is_certificate": ["machine", "bad", "chosen"], "least_crew": ["machine", "chosen"],
    },
    "answer": {
        "shortest_run": ["machine", "found", "situation"],
        "decide": ["machine", "bad", "*", "fuel=100"],
    },
    "ahead": {
        "wide_covers": ["first", "second"], "wide_after": ["machine", "situation", "move"],
        "explore": ["machine", "*", "fuel"], "is_closed": ["machine", "chosen"],
    },
    "questions": {
        "broken_situations": ["program"], "mark_situations": ["program", "first", "second"],
        "race_situations": ["program", "share"], "knot_situations": ["program"],
    },
    "tale": {"tell_run": ["program", "crew", "run"]},
    "repair": {
        "enclosed": ["program", "kind", "first", "last", "name"],
        "find_repair": ["program", "share", "*", "fuel=60"],
    },
    "desk": {"Desk": ["program"]},
}

METHODS = {
    "Layout": {
        "state_number": ["self", "values", "held"], "state_values": ["self", "number"],
        "place_number": ["self", "kind", "point", "values"], "place_values": ["self", "number"],
    },
    "Desk": {"ask": ["self", "command"]},
}

ALLOWED_FROM_OUTSIDE = ["heapq", "math", "itertools", "collections"]


def arguments_of(function):
    """The arguments as they are written: a star stands before those passed by keyword."""
    text = str(inspect.signature(function))[1:-1]
    return text.split(", ") if text else []


def sources():
    """The name, the text and the tree of each file of the package."""
    for path in sorted(FOLDER.rglob("*.py")):
        text = path.read_text(encoding="utf-8")
        yield path.name, text, ast.parse(text)


class Interface(unittest.TestCase):
    def test_names_and_arguments(self):
        for module_name, names in INTERFACE.items():
            module = importlib.import_module("legion." + module_name)
            for name, arguments in names.items():
                found = getattr(module, name)
                self.assertEqual(found.__module__, "legion." + module_name, name)
                if arguments is not None:
                    self.assertEqual(arguments_of(found), arguments, name)

    def test_methods(self):
        for class_name, methods in METHODS.items():
            found = [getattr(importlib.import_module("legion." + module_name), class_name)
                     for module_name, names in INTERFACE.items() if class_name in names]
            self.assertEqual(len(found), 1, class_name)
            for name, arguments in methods.items():
                self.assertIn(name, vars(found[0]), class_name)
                self.assertEqual(arguments_of(vars(found[0])[name]), arguments, name)

    def test_defined_in_their_files(self):
        defined = {}
        for file_name, _, tree in sources():
            for node in tree.body:
                if isinstance(node, (ast.FunctionDef, ast.ClassDef)):
                    defined.setdefault(file_name[:-3], []).append(node.name)
        for module_name, names in INTERFACE.items():
            for name in names:
                self.assertEqual(defined[module_name].count(name), 1, name)


class Files(unittest.TestCase):
    def test_nothing_else_in_the_folder(self):
        self.assertTrue((FOLDER / "__init__.py").is_file())
        for path in FOLDER.rglob("*"):
            if "__pycache__" not in path.parts:
                self.assertEqual(path.suffix, ".py", path)

    def test_sizes(self):
        for name, text, tree in sources():
            lines = text.split("\n")
            self.assertLessEqual(len(lines), 399, name)
            for at, line in enumerate(lines, start=1):
                self.assertLessEqual(len(line), 120, f"{name}:{at}")
            for node in ast.walk(tree):
                if isinstance(node, ast.FunctionDef):
                    size = node.end_lineno - node.lineno + 1
                    self.assertLessEqual(size, 40, f"{name}: {node.name}")

    def test_characters(self):
        for name, text, _ in sources():
            for sign in text:
                self.assertTrue(sign == "\n" or " " <= sign <= "~", f"{name}: {sign!r}")

    def test_imports(self):
        for name, _, tree in sources():
            for node in ast.walk(tree):
                self.assertNotIsInstance(node, ast.Import, name)
                if isinstance(node, ast.ImportFrom):
                    self.assertEqual(node.level, 0, name)
                    known = node.module.startswith("legion.")
                    self.assertTrue(known or node.module in ALLOWED_FROM_OUTSIDE, name)
                    self.assertIn(node, tree.body, name)

    def test_no_circles(self):
        needs = {}
        for name, _, tree in sources():
            modules = [node.module for node in tree.body if isinstance(node, ast.ImportFrom)]
            needs["legion." + name[:-3]] = [module for module in modules if "legion." in module]
        while needs:
            free = [name for name, modules in needs.items() if not set(modules) & set(needs)]
            self.assertTrue(free, needs)
            for name in free:
                del needs[name]

    def test_no_warnings(self):
        with warnings.catch_warnings():
            warnings.simplefilter("error")
            for name, text, _ in sources():
                compile(text, name, "exec")

    def test_no_test_inside(self):
        for name, _, _ in sources():
            self.assertFalse(name.startswith("test"), name)
