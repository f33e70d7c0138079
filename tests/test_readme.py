import os
import re
import unittest

README = os.path.join(os.path.dirname(os.path.dirname(os.path.abspath(__file__))), "README.md")


def code_blocks():
    with open(README, encoding="utf-8") as file:
        return re.findall(r"```python\n(.*?)```", file.read(), flags=re.DOTALL)


def told_worth(comment):
    """The value that a comment begins with, where it begins with one."""
    try:
        return eval(comment.split(": ")[0].split("; ")[0], {})
    except (SyntaxError, NameError):
        return None


class Readme(unittest.TestCase):
    def test_what_is_told_beside_each_row_is_right(self):
        checked = 0
        for block in code_blocks():
            names = {}
            for line in block.splitlines():
                code, sign, comment = line.partition("#")
                worth = told_worth(comment.strip())
                if worth is None:
                    exec(code, names)
                else:
                    self.assertEqual(eval(code.strip(), names), worth, line)
                    checked += 1
        self.assertGreater(checked, 20)


if __name__ == "__main__":
    unittest.main()
