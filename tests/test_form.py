"""The names of the interface, and the form of the package's files."""

import ast
import importlib
import inspect
import pathlib
import unittest

PACKAGE = pathlib.Path(__file__).resolve().parent.parent / "lowtricks"

INTERFACE = {
    "steps": ["is_step(value)", "is_steps(value)", "stepped(number, step)", "applied(steps, number)", "merged(steps)",
              "plain(steps)", "exchanged(steps)"],
    "reading": ["read_word(steps, word)", "ends_of(steps, number)", "listener_at(steps, number, place)",
                "end_places(steps, index, *, width)", "least_ending(steps, index, place)"],
    "tails": ["tail_after(steps, index, place)", "settled_at(steps, index)", "tails_of(steps, index)",
              "written_while(steps, index, place)"],
    "alike": ["same_function(steps, other)", "parting_number(steps, other)", "parting_below(steps, other)",
              "count_alike(steps, other, *, width)"],
    "origins": ["is_value(steps, value)", "count_origins(steps, value, *, width)",
                "nth_origin(steps, value, index, *, width)", "origin_index(steps, number, *, width)"],
    "fixed": ["count_fixed(steps, *, width)", "nth_fixed(steps, index, *, width)",
              "fixed_index(steps, number, *, width)", "walk_fixed(steps, *, width)", "works_once(steps)",
              "repeated(steps, number, times)"],
    "search": ["shortest(steps, *, longest=4)", "walk_lists(steps, length)", "count_lists(steps, length)",
               "count_functions(length)"],
}


class Interface(unittest.TestCase):
    def test_names_and_parameters(self):
        for file, rows in INTERFACE.items():
            module = importlib.import_module("lowtricks." + file)
            for row in rows:
                function = getattr(module, row.split("(")[0])
                self.assertEqual(function.__name__ + str(inspect.signature(function)), row)
                self.assertEqual(function.__module__, "lowtricks." + file)

    def test_generators(self):
        for file, name in [("tails", "tails_of"), ("fixed", "walk_fixed"), ("search", "walk_lists")]:
            module = importlib.import_module("lowtricks." + file)
            self.assertTrue(inspect.isgeneratorfunction(getattr(module, name)))


class Form(unittest.TestCase):
    def test_files(self):
        for path in sorted(PACKAGE.rglob("*.py")):
            text = path.read_text(encoding="utf-8")
            lines = text.splitlines()
            self.assertTrue(text.isascii() and "\t" not in text, path)
            self.assertLessEqual(len(lines), 399, path)
            self.assertLessEqual(max(len(line) for line in lines), 120, path)
            for node in ast.walk(ast.parse(text)):
                if isinstance(node, ast.FunctionDef):
                    self.assertLessEqual(node.end_lineno - node.lineno + 1, 40, (path, node.name))


if __name__ == "__main__":
    unittest.main()
