"""The interface, and the rules for files that a test can read off them."""

import ast
import unittest
from importlib import import_module
from pathlib import Path

PACKAGE = Path(__file__).resolve().parent.parent / "tablefind"

ERRORS = "TableError NoTable NoPose NoCell NoNumber TooMany NoText NoName NoRow"

# Each file with the names that the document lists for it.
LISTED = {
    "errors": ERRORS.split(),
    "tables": "is_table is_little size_of how_many_free signs_counted".split(),
    "poses": "posed pose_behind pose_back same_poses unlike_poses".split(),
    "places": "all_places stands_at".split(),
    "anypose": "places_posed cell_posed".split(),
    "rounds": "round_places moved_round how_many_moved least_moved".split(),
    "apart": "uncovered most_apart".split(),
    "near": "unlike_at nearest_cells near_cells".split(),
    "twice": "how_many_squares greatest_twice".split(),
    "keeper": "Keeper".split(),
    "texts": "show_table read_table show_cells read_cells".split(),
    "desk": "Desk".split(),
}

# Each class with the methods that the document lists for it, and how many things are handed to each.
METHODS = {
    ("keeper", "Keeper"): {"__init__": 2, "row": 1, "back": 0, "first_gone": 0, "rows": 0, "cells": 0},
    ("desk", "Desk"): {"__init__": 0, "say": 1, "names": 0},
}


def files():
    return sorted(PACKAGE.glob("*.py"))


class Interface(unittest.TestCase):

    def test_each_name_is_defined_in_the_file_that_lists_it(self):
        for name, listed in LISTED.items():
            tree = ast.parse((PACKAGE / f"{name}.py").read_text())
            defined = [node.name for node in tree.body if isinstance(node, (ast.FunctionDef, ast.ClassDef))]
            for one in listed:
                self.assertIn(one, defined)
                self.assertTrue(callable(getattr(import_module(f"tablefind.{name}"), one)))


    def test_each_method_is_defined_in_its_class(self):
        for (name, listed), methods in METHODS.items():
            tree = ast.parse((PACKAGE / f"{name}.py").read_text())
            body = [node.body for node in tree.body if isinstance(node, ast.ClassDef) and node.name == listed][0]
            defined = {node.name: len(node.args.args) - 1 for node in body if isinstance(node, ast.FunctionDef)}
            for method, handed in methods.items():
                self.assertEqual(defined.get(method), handed, (listed, method))


class Files(unittest.TestCase):

    def test_the_folder_has_python_files_only(self):
        found = [path.name for path in PACKAGE.iterdir() if path.name != "__pycache__" and path.suffix != ".py"]
        self.assertEqual(found, [])
        self.assertIn("__init__.py", [path.name for path in files()])

    def test_plain_characters_and_short_lines(self):
        for path in files():
            text = path.read_text()
            self.assertTrue(all([sign == "\n" or " " <= sign <= "~" for sign in text]), path.name)
            lines = text.split("\n")
            self.assertLess(len(lines), 400, path.name)
            self.assertLessEqual(max([len(line) for line in lines]), 120, path.name)

    def test_functions_have_at_most_forty_lines(self):
        for path in files():
            for node in ast.walk(ast.parse(path.read_text())):
                if isinstance(node, ast.FunctionDef):
                    self.assertLessEqual(node.end_lineno - node.lineno + 1, 40, node.name)

    def test_imports_name_the_package_by_full_names(self):
        for path in files():
            for node in ast.walk(ast.parse(path.read_text())):
                self.assertNotIsInstance(node, ast.Import, path.name)
                if isinstance(node, ast.ImportFrom):
                    self.assertEqual(node.level, 0, path.name)
                    self.assertTrue(node.module.startswith("tablefind."), path.name)


if __name__ == "__main__":
    unittest.main()
