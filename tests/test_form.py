"""The names of the interface, and the form of the package's files."""

import ast
import importlib
import inspect
import pathlib
import unittest

PACKAGE = pathlib.Path(__file__).resolve().parent.parent / "lowtricks"

INTERFACE = {
    "steps": ["is_step(value)", "is_steps(value)", "stepped(number, step)", "applied(steps, number)", "merged(steps)",
              "plain(steps)", "exchanged(steps)"],
    "reading": ["read_word(steps, word)", "ends_of(steps, number)", "listener_at(steps, number, place)",
                "end_places(steps, index, *, width)", "least_ending(steps, index, place)"],
    "tails": ["tail_after(steps, index, place)", "settled_at(steps, index)", "tails_of(steps, index)",
              "written_while(steps, index, place)"],
}


class Interface(unittest.TestCase):
    def test_names_and_parameters(self):
        for file, rows in INTERFACE.items():
            module = importlib.import_module("lowtricks." + file)
            for row in rows:
                function = getattr(module, row.split("(")[0])
                self.assertEqual(function.__name__ + str(inspect.signature(function)), row)
                self.assertEqual(function.__module__, "lowtricks." + file)

    def test_tails_of_is_a_generator(self):
        module = importlib.import_module("lowtricks.tails")
        self.assertTrue(inspect.isgeneratorfunction(module.tails_of))


class Form(unittest.TestCase):
    def test_files(self):
        for path in sorted(PACKAGE.rglob("*.py")):
            text = path.read_text(encoding="utf-8")
            lines = text.splitlines()
            self.assertTrue(text.isascii() and "\t" not in text, path)
            self.assertLessEqual(len(lines), 399, path)
            self.assertLessEqual(max(len(line) for line in lines), 120, path)
            for node in ast.walk(ast.parse(text)):
                if isinstance(node, ast.FunctionDef):
                    self.assertLessEqual(node.end_lineno - node.lineno + 1, 40, (path, node.name))


if __name__ == "__main__":
    unittest.main()
