"""The examples of README.md run as they stand, and tell what is written behind them."""

import unittest
from pathlib import Path

README = Path(__file__).resolve().parent.parent / "README.md"


def examples():
    """The lines of Python in the readme."""
    lines = README.read_text(encoding="utf-8").splitlines()
    return [line[4:] for line in lines if line.startswith("    ") and ".ci/run" not in line and "PYTHONPATH" not in line]


class Readme(unittest.TestCase):
    def test_examples(self):
        names = {}
        exec("\n".join(examples()), names)
        told = 0
        for line in examples():
            asked, mark, answer = line.partition("  # ")
            # What stands within a try can't be asked alone.
            if mark and not line.startswith(" ") and answer.startswith(("(", "True", "None")):
                wanted = answer.partition(":")[0]
                self.assertEqual(eval(asked, names), eval(wanted, names), line)
                told += 1
        self.assertGreater(told, 6)


if __name__ == "__main__":
    unittest.main()
