"""The examples of README.md tell what they say."""

import os
import re
import unittest

README = os.path.join(os.path.dirname(os.path.abspath(__file__)), os.pardir, "README.md")


def blocks():
    with open(README, encoding="utf-8") as file:
        return re.findall(r"```python\n(.*?)```", file.read(), re.S)


class Examples(unittest.TestCase):
    def test_each_line(self):
        self.assertTrue(blocks())
        for block in blocks():
            names = {}
            for line in block.splitlines():
                code, _, want = line.partition("#")
                if want:
                    self.assertEqual(repr(eval(code, names)), want.strip(), line)
                else:
                    exec(code, names)


if __name__ == "__main__":
    unittest.main()
