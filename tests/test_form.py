"""The names of the interface, and the form of the package's files."""

import ast
import importlib
import inspect
import pathlib
import unittest

PACKAGE = pathlib.Path(__file__).resolve().parent.parent / "lowtricks"

INTERFACE = {
    "steps": ["is_step(value)", "is_steps(value)", "stepped(number, step)", "applied(steps, number)", "merged(steps)",
              "plain(steps)", "exchanged(steps)"],
    "reading": ["read_word(steps, word)", "ends_of(steps, number)", "listener_at(steps, number, place)",
                "end_places(steps, index, *, width)", "least_ending(steps, index, place)"],
    "tails": ["tail_after(steps, index, place)", "settled_at(steps, index)", "tails_of(steps, index)",
              "written_while(steps, index, place)"],
    "alike": ["same_function(steps, other)", "parting_number(steps, other)", "parting_below(steps, other)",
              "count_alike(steps, other, *, width)"],
    "origins": ["is_value(steps, value)", "count_origins(steps, value, *, width)",
                "nth_origin(steps, value, index, *, width)", "origin_index(steps, number, *, width)"],
    "fixed": ["count_fixed(steps, *, width)", "nth_fixed(steps, index, *, width)",
              "fixed_index(steps, number, *, width)", "walk_fixed(steps, *, width)", "works_once(steps)",
              "repeated(steps, number, times)"],
    "search": ["shortest(steps, *, longest=4)", "walk_lists(steps, length)", "count_lists(steps, length)",
               "count_functions(length)"],
    "texts": ["show_steps(steps)", "read_steps(text)"],
}

# For each class: its file, its class above, its parameters, and its methods and properties.
CLASSES = {
    "Tricks": ("tricks", "object", "(*steps)", ["__call__", "__add__", "__mul__", "__invert__", "__eq__", "__len__",
               "__getitem__", "__contains__", "__iter__", "shown(self, kind)"], ["steps", "masks", "shift"]),
    "Reader": ("readers", "object", "(*steps)", ["feed(self, *bits)", "undo(self)", "ended(self)",
               "finish(self, number)", "twin(self)", "__len__"], ["rest", "written", "place", "listener"]),
    "BoundReader": ("readers", "Reader", "(*steps, longest=60)", ["feed(self, *bits)"], []),
    "Desk": ("desk", "object", "()", ["execute(self, command)"], []),
}


class Interface(unittest.TestCase):
    def test_names_and_parameters(self):
        for file, rows in INTERFACE.items():
            module = importlib.import_module("lowtricks." + file)
            for row in rows:
                function = getattr(module, row.split("(")[0])
                self.assertEqual(function.__name__ + str(inspect.signature(function)), row)
                self.assertEqual(function.__module__, "lowtricks." + file)

    def test_classes(self):
        for name, (file, above, parameters, methods, properties) in CLASSES.items():
            made = getattr(importlib.import_module("lowtricks." + file), name)
            self.assertEqual((made.__name__, made.__module__), (name, "lowtricks." + file))
            self.assertEqual([base.__name__ for base in made.__bases__], [above])
            self.assertEqual(str(inspect.signature(made)), parameters)
            for row in methods:
                # A method stands in the class itself, not only in the one above.
                method = vars(made)[row.split("(")[0]]
                self.assertTrue(inspect.isfunction(method), row)
                if "(" in row:
                    self.assertEqual(method.__name__ + str(inspect.signature(method)), row)
            for row in properties:
                self.assertIsInstance(vars(made)[row], property)

    def test_class_method(self):
        tricks = importlib.import_module("lowtricks.tricks").Tricks
        self.assertIsInstance(vars(tricks)["read"], classmethod)
        self.assertEqual(str(inspect.signature(tricks.read)), "(text)")

    def test_generators(self):
        for file, name in [("tails", "tails_of"), ("fixed", "walk_fixed"), ("search", "walk_lists")]:
            module = importlib.import_module("lowtricks." + file)
            self.assertTrue(inspect.isgeneratorfunction(getattr(module, name)))


class Form(unittest.TestCase):
    def test_files(self):
        for path in sorted(PACKAGE.rglob("*.py")):
            text = path.read_text(encoding="utf-8")
            lines = text.splitlines()
            self.assertTrue(text.isascii() and "\t" not in text, path)
            self.assertLessEqual(len(lines), 399, path)
            self.assertLessEqual(max(len(line) for line in lines), 120, path)
            for node in ast.walk(ast.parse(text)):
                if isinstance(node, ast.FunctionDef):
                    self.assertLessEqual(node.end_lineno - node.lineno + 1, 40, (path, node.name))

    def test_imports_of_own_modules_only(self):
        for path in sorted(PACKAGE.rglob("*.py")):
            for node in ast.walk(ast.parse(path.read_text(encoding="utf-8"))):
                self.assertNotIsInstance(node, ast.Import, path)
                if isinstance(node, ast.ImportFrom):
                    self.assertEqual((node.level, node.module.split(".")[0]), (0, "lowtricks"), path)

    def test_nothing_but_modules(self):
        for path in sorted(PACKAGE.iterdir()):
            self.assertTrue(path.suffix == ".py" or path.name == "__pycache__", path)


if __name__ == "__main__":
    unittest.main()
