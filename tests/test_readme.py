"""Tests of the examples in README.md."""

import ast
import pathlib
import re
import unittest

README = pathlib.Path(__file__).resolve().parent.parent / "README.md"


class TestReadme(unittest.TestCase):

    def test_examples(self):
        names = {}
        answers = 0
        for block in re.findall(r"```python\n(.*?)```", README.read_text(encoding="utf-8"), re.DOTALL):
            for line in block.splitlines():
                code, sign, told = line.partition("# ")
                if sign:
                    with self.subTest(line):
                        self.assertEqual(eval(code, names), ast.literal_eval(told))
                        answers += 1
                else:
                    exec(code, names)
        self.assertGreaterEqual(answers, 32)


if __name__ == "__main__":
    unittest.main()
