"""The interface's opening lines: names, arguments, the files that define them; and the form of the package's files."""

import ast
import inspect
import pathlib
import unittest

import cellpictures
from cellpictures import back, books, drawing, live, maps, questions, rules, sides, ways

FOLDER = pathlib.Path(cellpictures.__file__).parent

LINES = (
    (ways, "behind", "(way, first_way)"),
    (ways, "inverse", "(way)"),
    (ways, "place_to", "(way, place)"),
    (ways, "side_to", "(way, side)"),
    (maps, "turned_map", "(rows, way)"),
    (maps, "turned_ends", "(ends, way)"),
    (maps, "window", "(rows, row, column, *, ends=('open', 'open'))"),
    (rules, "Rule", "(middle, around, picture, *, ways=(0,))"),
    (books, "Book", "(kinds, rules, lasts, *, symmetries=None)"),
    (drawing, "draw", "(book, rows, *, ends=('open', 'open'))"),
    (drawing, "chosen", "(book, rows, row, column, *, ends=('open', 'open'))"),
    (questions, "missing", "(book, *, ends=('open', 'open'))"),
    (questions, "pictures", "(book, *, ends=('open', 'open'))"),
    (questions, "unused_rules", "(book, *, ends=('open', 'open'))"),
    (questions, "unused_lasts", "(book, *, ends=('open', 'open'))"),
    (questions, "needless", "(book, *, ends=('open', 'open'))"),
    (questions, "parting", "(book, other, *, ends=('open', 'open'))"),
    (questions, "matters", "(book, *, ends=('open', 'open'))"),
    (questions, "kept_ways", "(book, *, ends=('open', 'open'))"),
    (questions, "unkept", "(book, way, *, ends=('open', 'open'))"),
    (questions, "frames", "(book)"),
    (questions, "unframed", "(book, kind)"),
    (sides, "ties", "(book, *, ends=('open', 'open'))"),
    (sides, "tie_map", "(book, one, second, *, ends=('open', 'open'))"),
    (sides, "classes", "(book, *, ends=('open', 'open'))"),
    (sides, "misfit", "(book, signs, *, ends=('open', 'open'))"),
    (sides, "corner_misfit", "(book, signs, *, ends=('open', 'open'))"),
    (back, "count_maps", "(book, drawing, *, ends=('open', 'open'))"),
    (back, "first_map", "(book, drawing, *, ends=('open', 'open'))"),
    (back, "sure_kinds", "(book, drawing, *, ends=('open', 'open'))"),
    (live, "Live", "(book, rows, *, ends=('open', 'open'))"),
)

METHODS = (
    (rules.Rule, "turned", "(self, way)"),
    (books.Book, "looks", "(self, picture)"),
    (books.Book, "turned", "(self, way)"),
    (books.Book, "without", "(self, number)"),
    (live.Live, "change", "(self, row, column, kind)"),
    (live.Live, "back", "(self)"),
    (live.Live, "__len__", "(self)"),
)

PROPERTIES = (
    (rules.Rule, ("middle", "around", "picture", "ways")),
    (books.Book, ("kinds", "rules", "lasts", "symmetries")),
    (live.Live, ("book", "rows", "ends", "drawing")),
)


def files():
    return sorted(FOLDER.rglob("*.py"))


def imports(path):
    nodes = ast.walk(ast.parse(path.read_text()))
    return [node for node in nodes if isinstance(node, (ast.Import, ast.ImportFrom))]


class InterfaceTest(unittest.TestCase):
    def test_names_and_arguments(self):
        for module, name, line in LINES:
            with self.subTest(name=name):
                self.assertEqual(str(inspect.signature(getattr(module, name))), line)

    def test_each_is_defined_in_its_file(self):
        for module, name, _ in LINES:
            with self.subTest(name=name):
                self.assertEqual(getattr(module, name).__module__, module.__name__)

    def test_methods_are_defined_in_their_class(self):
        for owner, name, line in METHODS:
            with self.subTest(owner=owner.__name__, name=name):
                self.assertEqual(str(inspect.signature(vars(owner)[name])), line)

    def test_properties_and_operators_are_defined_in_their_class(self):
        for owner, names in PROPERTIES:
            for name in names:
                with self.subTest(owner=owner.__name__, name=name):
                    self.assertIsInstance(vars(owner)[name], property)
        self.assertIn("__eq__", vars(rules.Rule))
        self.assertIn("__eq__", vars(books.Book))
        self.assertIn("__add__", vars(books.Book))

    def test_init_imports_nothing(self):
        self.assertEqual(imports(FOLDER / "__init__.py"), [])


class FormTest(unittest.TestCase):
    def test_imports_are_from_the_package(self):
        for path in files():
            for node in imports(path):
                with self.subTest(path=path.name, line=node.lineno):
                    self.assertIsInstance(node, ast.ImportFrom)
                    self.assertEqual((node.level, node.module.split(".")[0]), (0, "cellpictures"))

    def test_sizes_and_characters(self):
        for path in files():
            lines = path.read_text().split("\n")
            with self.subTest(path=path.name):
                self.assertLessEqual(len(lines), 400)
                self.assertLessEqual(max(len(line) for line in lines), 120)
                self.assertTrue(all(" " <= sign <= "~" for line in lines for sign in line))

    def test_functions_are_short(self):
        for path in files():
            for node in ast.walk(ast.parse(path.read_text())):
                if isinstance(node, ast.FunctionDef):
                    with self.subTest(path=path.name, function=node.name):
                        self.assertLessEqual(node.end_lineno - node.lineno + 1, 40)


if __name__ == "__main__":
    unittest.main()
