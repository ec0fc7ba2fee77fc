import ast
import pathlib
import re
import unittest

README = pathlib.Path(__file__).resolve().parent.parent / "README.md"


class Readme(unittest.TestCase):
    def test_what_the_examples_tell(self):
        names, told = {}, 0
        for block in re.findall(r"```python\n(.*?)```", README.read_text(encoding="utf-8"), re.DOTALL):
            for row in block.splitlines():
                code, mark, answer = row.partition("  # ")
                if mark:
                    with self.subTest(row=row):
                        self.assertEqual(eval(code, names), ast.literal_eval(answer))
                        told += 1
                else:
                    exec(code, names)
        self.assertGreater(told, 10)
