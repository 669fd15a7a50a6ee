"""The rules of LANGUAGE.md that can be looked up: L1, L10 and L14, in every file of the package."""

import ast
import unittest
from pathlib import Path

PACKAGE = Path(__file__).resolve().parent.parent / "crosswalls"
MOST_ROWS_OF_A_FUNCTION = 40
MOST_ROWS_OF_A_FILE = 399
MOST_SIGNS_OF_A_ROW = 120


def files():
    """Each file of the package, but for what Python itself puts there."""
    return sorted(path for path in PACKAGE.rglob("*") if path.is_file() and "__pycache__" not in path.parts)


def long_functions(text):
    """The names of the functions and methods that have too many rows, those of decorators counted."""
    found = []
    for node in ast.walk(ast.parse(text)):
        if isinstance(node, (ast.FunctionDef, ast.AsyncFunctionDef)):
            first = min([node.lineno] + [decorator.lineno for decorator in node.decorator_list])
            if node.end_lineno - first + 1 > MOST_ROWS_OF_A_FUNCTION:
                found.append(node.name)
    return found


def wrong_characters(text):
    """The characters that are neither from the space to the tilde nor a line feed; so no tab is left either."""
    return sorted({character for character in text if character != "\n" and not " " <= character <= "~"})


def long_rows(text):
    """The numbers of the rows that have too many signs."""
    return [number for number, row in enumerate(text.split("\n"), 1) if len(row) > MOST_SIGNS_OF_A_ROW]


def rows_of(text):
    return len(text.split("\n")) - text.endswith("\n")


class RulesTest(unittest.TestCase):

    def read(self, path):
        return path.read_bytes().decode("utf-8")

    def test_there_are_files(self):
        names = [path.name for path in files()]
        for name in ("__init__.py", "errors.py", "plans.py", "rooms.py"):
            self.assertIn(name, names)
        self.assertLessEqual(len(names), 100)

    def test_names_of_files(self):
        for path in files():
            self.assertRegex(path.name, r"\A[a-z_][a-z0-9_]*\.py\Z")

    def test_each_folder_has_its_init(self):
        for path in files():
            self.assertTrue((path.parent / "__init__.py").is_file(), path)

    def test_size(self):
        for path in files():
            text = self.read(path)
            self.assertEqual(long_functions(text), [], path)
            self.assertEqual(long_rows(text), [], path)
            self.assertLessEqual(rows_of(text), MOST_ROWS_OF_A_FILE, path)

    def test_characters(self):
        for path in files():
            self.assertEqual(wrong_characters(self.read(path)), [], path)


class LookingUpTest(unittest.TestCase):
    """That the rules would be found broken."""

    def test_functions(self):
        for rows, found in ((39, []), (40, ["long"])):
            text = "def long():\n" + "    x = 1\n" * rows
            self.assertEqual(long_functions(text), found)
        decorated = "class A:\n    @staticmethod\n    def long():\n" + "        x = 1\n" * 39
        self.assertEqual(long_functions(decorated), ["long"])

    def test_rows(self):
        self.assertEqual(long_rows("x" * 120 + "\n" + "y" * 121 + "\n"), [2])
        self.assertEqual([rows_of("a\n" * 399), rows_of("a\n" * 399 + "a")], [399, 400])

    def test_characters(self):
        self.assertEqual(wrong_characters("a\tb\r\n~ \u00e4\x7f"), ["\t", "\r", "\x7f", "\u00e4"])


if __name__ == "__main__":
    unittest.main()
