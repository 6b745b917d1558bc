"""The examples of README.md run as they stand, and tell what is written behind them."""

import ast
import unittest
from pathlib import Path

README = Path(__file__).resolve().parent.parent / "README.md"


def examples():
    """The lines of Python in the readme."""
    lines = README.read_text(encoding="utf-8").splitlines()
    return [line[4:] for line in lines if line.startswith("    ") and ".ci/run" not in line and "PYTHONPATH" not in line]


def wanted(comment, names):
    """What a comment tells behind an example, up to a colon where it says more."""
    try:
        return eval(comment, names)
    except SyntaxError:
        return eval(comment.partition(":")[0], names)


class Readme(unittest.TestCase):
    def test_examples(self):
        lines = examples()
        names = {}
        told = 0
        for node in ast.parse("\n".join(lines)).body:
            comment = lines[node.end_lineno - 1].partition("  # ")[2].strip()
            if isinstance(node, ast.Expr) and comment.startswith(("(", "[", '"', "True", "None", "1", "2", "3", "4")):
                self.assertEqual(eval(ast.unparse(node.value), names), wanted(comment, names), lines[node.lineno - 1])
                told += 1
            else:
                exec(ast.unparse(node), names)
        self.assertGreater(told, 35)


if __name__ == "__main__":
    unittest.main()
