"""That what README.md tells of its lines of code is so."""

import ast
import re
import unittest
from pathlib import Path

README = Path(__file__).resolve().parent.parent / "README.md"


class Readme(unittest.TestCase):
    def test_told_values(self):
        told = 0
        for block in re.findall(r"```python\n(.*?)```", README.read_text(encoding="utf-8"), re.DOTALL):
            names = {}
            for line in block.splitlines():
                code, blank, remark = line.partition("  #")
                exec(code, names)
                try:
                    value = ast.literal_eval(remark.strip())
                except (SyntaxError, ValueError):
                    continue
                told += 1
                self.assertEqual(eval(code.partition(" = ")[2] or code, names), value, line)
        self.assertGreater(told, 40)


if __name__ == "__main__":
    unittest.main()
