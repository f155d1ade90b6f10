"""The examples of README.md tell what they say."""

import ast
import pathlib
import re
import unittest

TEXT = (pathlib.Path(__file__).resolve().parent.parent / "README.md").read_text(encoding="utf-8")


class Readme(unittest.TestCase):
    def test_examples(self):
        names = {}
        told = 0
        for block in re.findall(r"```python\n(.*?)```", TEXT, re.DOTALL):
            lines = [line for line in block.splitlines() if line] + [""]
            for line, behind in zip(lines, lines[1:]):
                # Each line once, as some change what they speak to.
                if behind.startswith("# "):
                    self.assertEqual(eval(line, names), ast.literal_eval(behind[2:]), line)
                    told += 1
                elif not line.startswith("# "):
                    exec(line, names)
        self.assertGreater(told, 10)


if __name__ == "__main__":
    unittest.main()
