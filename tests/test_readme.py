"""The examples of README.md tell what they say."""

import ast
import pathlib
import re
import unittest

TEXT = (pathlib.Path(__file__).resolve().parent.parent / "README.md").read_text(encoding="utf-8")


class Readme(unittest.TestCase):
    def test_examples(self):
        names = {}
        told = 0
        for block in re.findall(r"```python\n(.*?)```", TEXT, re.DOTALL):
            asked = ""
            for line in block.splitlines():
                if line.startswith("# "):
                    self.assertEqual(eval(asked, names), ast.literal_eval(line[2:]), asked)
                    told += 1
                elif line:
                    exec(line, names)
                    asked = line
        self.assertGreater(told, 10)


if __name__ == "__main__":
    unittest.main()
