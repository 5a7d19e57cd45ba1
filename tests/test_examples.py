"""Promises [4] to [18]: the examples of the document, as they stand there; and those of README.md."""

import ast
import builtins
import doctest
import os
import unittest

from runsbehind import asked, board, chains, corners, counters, counts, days, desk, errors, graphs, hot, lots, paths
from runsbehind import ranges, texts, wrong

HERE = os.path.dirname(os.path.abspath(__file__))
PLACE = os.path.join(HERE, "examples.txt")


def interface():
    names = {}
    for module in (errors, graphs, counts, paths, chains, hot, lots, counters, ranges, wrong, days, corners,
                   asked, board, texts, desk):
        names.update({name: worth for name, worth in vars(module).items() if callable(worth)})
    return names


def shown(error):
    """The error as the document writes it."""
    kept = ", ".join(f"{name}={worth!r}" for name, worth in vars(error).items())
    return f"{type(error).__name__}({kept})"


class Examples(unittest.TestCase):
    def test_examples(self):
        names = interface()
        with open(PLACE, encoding="ascii") as file:
            lines = file.read().split("\n")
        done = 0
        for at, line in enumerate(lines):
            if not line.startswith(">>> "):
                continue
            with self.subTest(line=at + 1):
                done += 1
                self.check(line[4:], lines[at + 1], names)
        self.assertEqual(done, 149)

    def check(self, source, expected, names):
        if isinstance(ast.parse(source).body[0], ast.Assign):
            exec(source, names)
        elif expected.startswith("raises "):
            with self.assertRaises(Exception) as caught:
                eval(source, names)
            self.assertEqual(shown(caught.exception), expected[len("raises "):])
        else:
            found = eval(source, names)
            self.assertEqual(found, ast.literal_eval(expected))
            self.assertEqual(repr(found), repr(ast.literal_eval(expected)))

    def test_readme(self):
        # What is shown last is kept as _ among the builtins, where other tests would find it.
        self.addCleanup(vars(builtins).pop, "_", None)
        done = doctest.testfile(os.path.join(os.path.dirname(HERE), "README.md"), module_relative=False)
        self.assertEqual((done.failed, done.attempted > 10), (0, True))


if __name__ == "__main__":
    unittest.main()
