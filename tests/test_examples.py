"""Promises [4], [5], [6]: the examples of the document, as they stand there."""

import ast
import os
import unittest

from runsbehind import counts, errors, graphs, paths

PLACE = os.path.join(os.path.dirname(os.path.abspath(__file__)), "examples.txt")


def interface():
    names = {}
    for module in (errors, graphs, counts, paths):
        names.update({name: worth for name, worth in vars(module).items() if callable(worth)})
    return names


def shown(error):
    """The error as the document writes it."""
    kept = ", ".join(f"{name}={worth!r}" for name, worth in vars(error).items())
    return f"{type(error).__name__}({kept})"


class Examples(unittest.TestCase):
    def test_examples(self):
        names = interface()
        with open(PLACE, encoding="ascii") as file:
            lines = file.read().split("\n")
        done = 0
        for at, line in enumerate(lines):
            if not line.startswith(">>> "):
                continue
            with self.subTest(line=at + 1):
                done += 1
                self.check(line[4:], lines[at + 1], names)
        self.assertEqual(done, 30)

    def check(self, source, expected, names):
        if isinstance(ast.parse(source).body[0], ast.Assign):
            exec(source, names)
        elif expected.startswith("raises "):
            with self.assertRaises(Exception) as caught:
                eval(source, names)
            self.assertEqual(shown(caught.exception), expected[len("raises "):])
        else:
            found = eval(source, names)
            self.assertEqual(found, ast.literal_eval(expected))
            self.assertEqual(repr(found), repr(ast.literal_eval(expected)))


if __name__ == "__main__":
    unittest.main()
